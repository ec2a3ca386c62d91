import Derived.Test.YtpgfnlhfciacoaaGreatDoorChecked
import Derived.WalkKit
import Derived.WalkLawsBesides
import Derived.WalkSpells
import Derived.Lib.LaidTab
import Derived.Lib.ItoaMem
import Derived.Lib.Hide
import Derived.Lib.Bytealg
import Derived.Lib.IndexLaws
import Derived.Laws.AppendOwn
import Derived.Laws.OwnMore
import Derived.Shelf.SlicesQ.Load
import Derived.Maps.AppendAt
import Derived.Deep.AppendLies
import Derived.RegionTactic
import Derived.OwnWalk
import Derived.RangeFuncBox
import Derived.Laws.Slices
import Derived.Laws.IdiomStrings
import Derived.Shelf.Bytes.SlSmallAll
import Derived.ArgAppend
import Derived.Maps.StringElems
import Derived.Maps.Ext
import Derived.Maps.OwnIn
import Derived.Lib.Join
import Derived.Laws.BitsAllLaws
import Derived.Maps.OwnSet
import Derived.Lib.Strings
namespace Go.Proofs.YtpgfnlhfciacoaaGreatDoor
open Go.RowKit
theorem YU {a b : Bool} (h : a = b) : Ending.returned (.bool a) = .returned (.bool b) := by rw [h]
theorem ret_int {k : IntKind} {a b : Int} (h : a = b) : Ending.returned (.int k a) = .returned (.int k b) := by rw [h]
theorem var_lt {w : World} {n : String} {g : Nat} {cs : Array Value} (hg : Tryz.prog.globalNamed n = some g) (h : w.var? Tryz.prog n = some cs) : g < w.heap.size := by
 unfold World.var? at h
 rcases Nat.lt_or_ge g w.heap.size with h' | h'
 · exact h'
 · rw [hg, Option.bind_some, Array.getElem?_eq_none h'] at h; simp at h
theorem below_step {B : Nat} {a b c : World} (h : Below B a b) (k : Below b.heap.size b c) (hB : B ≤ b.heap.size) : Below B a c := h.trans (k.mono hB)
theorem YA {a b c : World} (h : Below a.heap.size a b) (k : Below b.heap.size b c) : Below a.heap.size a c := h.trans (k.mono h.size)
theorem btl (s : ByteArray) : s.toList = s.data.toList := ByteArray.toList_eq s
theorem below_grow (w : World) (k : Nat) (os : Array Obj) : Below w.heap.size w (Sort.grow (w.drewN k) os) :=
 ⟨rfl, rfl, rfl, by simp [Sort.grow], fun i hi => by
  show ((w.drewN k).heap ++ os)[i]? = _
  rw [Array.getElem?_append_left (by show i < w.heap.size; omega)]
  rfl⟩
theorem take_snocB (s : ByteArray) (k : Nat) (h : k < s.size) : s.data.toList.take (k + 1) = s.data.toList.take k ++ [s[k]] := by
 rw [List.take_succ_eq_append_getElem (by simpa using h)]; rfl
theorem take_all (s : ByteArray) : s.data.toList.take s.size = s.data.toList := List.take_of_length_le (by simp)
def atomN (n : Nat) : Bool := decide (32 < n ∧ n < 127 ∧ n ≠ 34 ∧ n ≠ 37 ∧ n ≠ 40 ∧ n ≠ 41 ∧ n ≠ 42 ∧ n ≠ 92 ∧ n ≠ 93 ∧ n ≠ 123)
def tagN (n : Nat) : Bool := decide (n = 93 ∨ 32 < n ∧ n < 127 ∧ n ≠ 34 ∧ n ≠ 37 ∧ n ≠ 40 ∧ n ≠ 41 ∧ n ≠ 42 ∧ n ≠ 92 ∧ n ≠ 123 ∧ n ≠ 43)
def textN (n : Nat) : Bool := decide (0 < n ∧ n < 128 ∧ n ≠ 10 ∧ n ≠ 13)
def bitAt (a b c d : Int) (n : Nat) : Bool := bits BinOp.and IntKind.u64 ((if n / 64 = 0 then a else if n / 64 = 1 then b else if n / 64 = 2 then c else d) / 2 ^ (n % 64)) 1 == 1
theorem atom_bit : ∀ n : Fin 256, bitAt 18446736213919399936 8646911283746045951 0 0 n.val = atomN n.val := by decide +kernel
theorem tag_bit : ∀ n : Fin 256, bitAt 18446727417826377728 8646911284282916863 0 0 n.val = tagN n.val := by decide +kernel
theorem text_bit : ∀ n : Fin 256, bitAt 18446744073709542398 18446744073709551615 0 0 n.val = textN n.val := by decide +kernel
def upN (n : Nat) : Nat := if 97 ≤ n ∧ n ≤ 122 then n - 32 else n
def upB (c : UInt8) : UInt8 := UInt8.ofNat (upN c.toNat)
def upL (l : List UInt8) : List UInt8 := l.map upB
theorem upN_lt {n : Nat} (h : n < 256) : upN n < 256 := by unfold upN; split <;> omega
theorem upB_toNat (c : UInt8) : (upB c).toNat = upN c.toNat := by
 unfold upB; rw [UInt8.toNat_ofNat']; exact Nat.mod_eq_of_lt (upN_lt c.toNat_lt)
theorem upN_upN (n : Nat) : upN (upN n) = upN n := by unfold upN; split <;> (try split) <;> omega
theorem upB_upB (c : UInt8) : upB (upB c) = upB c := by
 apply UInt8.toNat_inj.1; rw [upB_toNat, upB_toNat, upN_upN]
theorem upL_upL (l : List UInt8) : upL (upL l) = upL l := by
 unfold upL; rw [List.map_map]; exact List.map_congr_left fun c _ => upB_upB c
theorem upL_length (l : List UInt8) : (upL l).length = l.length := by simp [upL]
def spN (n : Nat) : Bool := decide (n = 34 ∨ n = 92)
def escC (c : UInt8) : List UInt8 := if spN c.toNat = true then [92, c] else [c]
def escL (l : List UInt8) : List UInt8 := l.flatMap escC
def quotedL (l : List UInt8) : List UInt8 := 34 :: (escL l ++ [34])
def allT (l : List UInt8) : Bool := l.all fun c => textN c.toNat
theorem escL_cons (c : UInt8) (l : List UInt8) : escL (c :: l) = escC c ++ escL l := rfl
theorem escL_append (a b : List UInt8) : escL (a ++ b) = escL a ++ escL b := by simp [escL]
theorem escC_len (c : UInt8) : (escC c).length ≤ 2 := by unfold escC; split <;> simp
theorem escL_len (l : List UInt8) : (escL l).length ≤ 2 * l.length := by
 induction l with
 | nil => simp [escL]
 | cons c l ih =>
   rw [escL_cons, List.length_append, List.length_cons]
   have := escC_len c
   omega
theorem escL_snoc (l : List UInt8) (k : Nat) (h : k < l.length) : escL (l.take (k + 1)) = escL (l.take k) ++ escC l[k] := by
 rw [List.take_succ_eq_append_getElem h, escL_append]
 simp [escL]
theorem allT_false (l : List UInt8) (k : Nat) (h : k < l.length) (ht : textN l[k].toNat = false) : allT l = false := by
 unfold allT
 rw [List.all_eq_false]
 exact ⟨l[k], List.getElem_mem _, by simp [ht]⟩
theorem allT_snoc (l : List UInt8) (k : Nat) (h : k < l.length) (ha : allT (l.take k) = true) (ht : textN l[k].toNat = true) : allT (l.take (k + 1)) = true := by
 unfold allT at *
 rw [List.take_succ_eq_append_getElem h, List.all_append, ha]
 simp [ht]
theorem allT_at {l : List UInt8} (h : allT l = true) {c : UInt8} (hc : c ∈ l) : textN c.toNat = true := by
 unfold allT at h
 exact List.all_eq_true.1 h c hc
theorem q_step_plain {X l : List UInt8} {k f : Nat} (hk : k < l.length) (hf : f ≤ k) (h : X ++ ((l.take k).drop f) = 34 :: escL (l.take k)) (hs : spN l[k].toNat = false) : X ++ ((l.take (k + 1)).drop f) = 34 :: escL (l.take (k + 1)) := by
 have e1 : escC l[k] = [l[k]] := by unfold escC; rw [if_neg (by simp [hs])]
 have e2 : (l.take (k + 1)).drop f = (l.take k).drop f ++ [l[k]] := by
  rw [List.take_succ_eq_append_getElem hk, List.drop_append_of_le_length (by simp; omega)]
 rw [escL_snoc l k hk, e1, e2, ← List.append_assoc, h]
 rfl
theorem q_step_sp {X l : List UInt8} {k f : Nat} (hk : k < l.length) (h : X ++ ((l.take k).drop f) = 34 :: escL (l.take k)) (hs : spN l[k].toNat = true) : ((X ++ ((l.take k).drop f)) ++ [92]) ++ ((l.take (k + 1)).drop k) = 34 :: escL (l.take (k + 1)) := by
 have e1 : escC l[k] = [92, l[k]] := by unfold escC; rw [if_pos hs]
 have e2 : (l.take (k + 1)).drop k = [l[k]] := by
  rw [List.take_succ_eq_append_getElem hk, List.drop_append_of_le_length (by simp; omega)]
  simp
 rw [escL_snoc l k hk, e1, e2, h]
 simp
theorem q_end {X l : List UInt8} {f : Nat} (h : X ++ ((l.take l.length).drop f) = 34 :: escL (l.take l.length)) : (X ++ l.drop f) ++ [34] = quotedL l := by
 rw [List.take_length] at h
 rw [h]
 rfl
theorem q_len {X l : List UInt8} {k f : Nat} (hk : k ≤ l.length) (hf : f ≤ k) (h : X ++ ((l.take k).drop f) = 34 :: escL (l.take k)) : X.length + (k - f) ≤ 1 + 2 * k := by
 have h1 := congrArg List.length h
 have h2 := escL_len (l.take k)
 rw [List.length_append, List.length_drop, List.length_take, List.length_cons] at h1
 rw [List.length_take] at h2
 omega
def chN : List UInt8 → Nat
 | [] => 0
 | [c] => if c = 92 then 0 else if textN c.toNat = true then 1 else 0
 | c :: d :: _ => if c = 92 then (if spN d.toNat = true then 2 else 0) else if textN c.toNat = true then 1 else 0
def ZL : List UInt8 → Option (List UInt8 × Nat)
 | [] => none
 | [c] => if c = 34 then some ([], 0) else none
 | c :: d :: r => if c = 34 then some ([], 0) else if c = 92 then (if spN d.toNat = true then (ZL r).map (fun p => (d :: p.1, p.2 + 2)) else none) else if textN c.toNat = true then (ZL (d :: r)).map (fun p => (c :: p.1, p.2 + 1)) else none
theorem q_mark (r : List UInt8) (h : r[0]? = some 34) : ZL r = some ([], 0) := by
 match r, h with
 | [c], h => simp at h; subst h; rfl
 | c :: d :: r, h => simp at h; subst h; rw [ZL]; rfl
theorem q_none (r : List UInt8) (h : r[0]? ≠ some 34) (hn : chN r = 0) : ZL r = none := by
 match r, h, hn with
 | [], _, _ => rfl
 | [c], h, _ => rw [ZL, if_neg (by simpa using h)]
 | c :: d :: r, h, hn =>
   rw [ZL, if_neg (by simpa using h)]
   rw [chN] at hn
   by_cases h92 : c = 92
   · rw [if_pos h92] at hn ⊢
     by_cases hs : spN d.toNat = true
     · rw [if_pos hs] at hn; cases hn
     · rw [if_neg hs]
   · rw [if_neg h92] at hn ⊢
     by_cases ht : textN c.toNat = true
     · rw [if_pos ht] at hn; cases hn
     · rw [if_neg ht]
def chV (r : List UInt8) : UInt8 := if r[0]? = some 92 then r.getD 1 0 else r.getD 0 0
theorem q_char (r : List UInt8) (n : Nat) (h : r[0]? ≠ some 34) (hn : chN r = n) (h0 : 0 < n) : ZL r = (ZL (r.drop n)).map (fun p => (chV r :: p.1, p.2 + n)) := by
 match r, h, hn with
 | [], _, hn => subst hn; simp [chN] at h0
 | [c], h, hn =>
   rw [ZL, if_neg (by simpa using h)]
   rw [chN] at hn
   by_cases h92 : c = 92
   · rw [if_pos h92] at hn; omega
   · rw [if_neg h92] at hn
     by_cases ht : textN c.toNat = true
     · rw [if_pos ht] at hn; subst hn; rfl
     · rw [if_neg ht] at hn; omega
 | c :: d :: r, h, hn =>
   rw [ZL, if_neg (by simpa using h)]
   rw [chN] at hn
   by_cases h92 : c = 92
   · rw [if_pos h92] at hn ⊢
     by_cases hs : spN d.toNat = true
     · rw [if_pos hs] at hn ⊢
       subst hn
       subst h92
       rfl
     · rw [if_neg hs] at hn; omega
   · rw [if_neg h92] at hn ⊢
     by_cases ht : textN c.toNat = true
     · rw [if_pos ht] at hn ⊢
       subst hn
       have e : chV (c :: d :: r) = c := by unfold chV; rw [if_neg (by simpa using h92)]; rfl
       rw [e]
       rfl
     · rw [if_neg ht] at hn; omega
theorem chN_le (r : List UInt8) : chN r ≤ r.length := by
 match r with
 | [] => simp [chN]
 | [c] => rw [chN]; split <;> (try split) <;> simp
 | c :: d :: r => rw [chN]; split <;> (try split) <;> simp
def ZQ : List UInt8 → List UInt8
 | [] => []
 | [c] => [c]
 | c :: d :: r => if c = 92 then d :: ZQ r else c :: ZQ (d :: r)
def wfB : List UInt8 → Bool
 | [] => true
 | [c] => decide (c ≠ 92)
 | c :: d :: r => if c = 92 then wfB r else wfB (d :: r)
theorem q_plain (r : List UInt8) (P : List UInt8) (n : Nat) (h : ZL r = some (P, n)) : n < r.length ∧ ZQ (r.take n) = P ∧ wfB (r.take n) = true ∧ r[n]? = some 34 := by
 induction r using ZL.induct generalizing P n with
 | case1 => cases h
 | case2 =>
   simp [ZL] at h
   obtain ⟨rfl, rfl⟩ := h
   simp [ZQ, wfB]
 | case3 c h34 =>
   rw [ZL, if_neg h34] at h
   cases h
 | case4 d r =>
   rw [ZL, if_pos rfl] at h
   simp at h
   obtain ⟨rfl, rfl⟩ := h
   simp [ZQ, wfB]
 | case5 d r hs h34 ih =>
   rw [ZL, if_neg h34, if_pos rfl, if_pos hs] at h
   obtain ⟨p, hp, he⟩ := Option.map_eq_some_iff.1 h
   injection he with e1 e2
   subst e1; subst e2
   obtain ⟨a1, a2, a3, a4⟩ := ih p.1 p.2 hp
   refine ⟨by simp; omega, ?_, ?_, by simpa using a4⟩
   · simp [ZQ, a2]
   · simp [wfB, a3]
 | case6 d r hs h34 =>
   rw [ZL, if_neg h34, if_pos rfl, if_neg hs] at h
   cases h
 | case7 c d r h34 h92 ht ih =>
   rw [ZL, if_neg h34, if_neg h92, if_pos ht] at h
   obtain ⟨p, hp, he⟩ := Option.map_eq_some_iff.1 h
   injection he with e1 e2
   subst e1; subst e2
   obtain ⟨a1, a2, a3, a4⟩ := ih p.1 p.2 hp
   refine ⟨by simp at a1 ⊢; omega, ?_, ?_, by simpa using a4⟩
   · rw [List.take_succ_cons]
     cases hp2 : p.2 with
     | zero =>
       rw [hp2] at a2
       simp [ZQ] at a2 ⊢
       exact a2
     | succ m =>
       rw [hp2] at a2
       rw [List.take_succ_cons] at a2 ⊢
       rw [ZQ, if_neg h92, a2]
   · rw [List.take_succ_cons]
     cases hp2 : p.2 with
     | zero => simp [wfB, h92]
     | succ m =>
       rw [hp2] at a3
       rw [List.take_succ_cons] at a3 ⊢
       rw [wfB, if_neg h92, a3]
 | case8 c d r h34 h92 ht =>
   rw [ZL, if_neg h34, if_neg h92, if_neg ht] at h
   cases h
theorem plain_none (b : List UInt8) (h : (92 : UInt8) ∉ b) : ZQ b = b := by
 induction b using ZQ.induct with
 | case1 => rfl
 | case2 c => rfl
 | case3 d r ih => simp at h
 | case4 c d r h92 ih => rw [ZQ, if_neg h92, ih (fun hm => h (by simp at hm ⊢; right; exact hm))]
theorem plain_at (b u v : List UInt8) (hb : b = u ++ 92 :: v) (hu : (92 : UInt8) ∉ u) (hw : wfB b = true) : ∃ d v', v = d :: v' ∧ wfB v' = true ∧ ZQ b = u ++ d :: ZQ v' := by
 induction u generalizing b with
 | nil =>
   subst hb
   cases v with
   | nil => simp [wfB] at hw
   | cons d v' => exact ⟨d, v', rfl, by simpa [wfB] using hw, by simp [ZQ]⟩
 | cons c u ih =>
   have hc : c ≠ 92 := fun e => hu (by simp [e])
   have hu' : (92 : UInt8) ∉ u := fun e => hu (by simp [e])
   have key : wfB (u ++ 92 :: v) = true ∧ ZQ b = c :: ZQ (u ++ 92 :: v) := by
    subst hb
    cases u with
    | nil => simp [wfB, hc] at hw; simp [ZQ, hc, hw]
    | cons x u => simp [wfB, hc] at hw; simp [ZQ, hc, hw]
   obtain ⟨d, v', h1, h2, h3⟩ := ih _ rfl hu' key.1
   exact ⟨d, v', h1, h2, by rw [key.2, h3]; rfl⟩
def QAt (l : List UInt8) (f p : Nat) (P : List UInt8) : Prop := f ≤ p ∧ ZL (l.drop f) = (ZL (l.drop p)).map (fun t => (P ++ t.1, t.2 + (p - f)))
theorem QAt.start (l : List UInt8) (f : Nat) : QAt l f f [] := by
 refine ⟨Nat.le_refl _, ?_⟩
 rw [Nat.sub_self]
 cases ZL (l.drop f) <;> rfl
theorem drop_at (l : List UInt8) (p : Nat) : (l.drop p)[0]? = l[p]? := by rw [List.getElem?_drop, Nat.add_zero]
theorem QAt.go {l : List UInt8} {f p n : Nat} {P : List UInt8} (h : QAt l f p P) (h34 : l[p]? ≠ some 34) (hn : chN (l.drop p) = n) (h0 : 0 < n) : QAt l f (p + n) (P ++ [chV (l.drop p)]) := by
 obtain ⟨h1, h2⟩ := h
 refine ⟨by omega, ?_⟩
 rw [h2, q_char _ n (by rw [drop_at]; exact h34) hn h0, List.drop_drop]
 cases ZL (l.drop (p + n)) with
 | none => rfl
 | some t =>
   simp only [Option.map_some, Option.some.injEq, Prod.mk.injEq]
   exact ⟨by simp, by omega⟩
theorem QAt.mark {l : List UInt8} {f p : Nat} {P : List UInt8} (h : QAt l f p P) (h34 : l[p]? = some 34) : ZL (l.drop f) = some (P, p - f) := by
 rw [h.2, q_mark _ (by rw [drop_at]; exact h34)]
 simp
theorem QAt.stop {l : List UInt8} {f p : Nat} {P : List UInt8} (h : QAt l f p P) (h34 : l[p]? ≠ some 34) (hn : chN (l.drop p) = 0) : ZL (l.drop f) = none := by
 rw [h.2, q_none _ (by rw [drop_at]; exact h34) hn]
 rfl
def allL (g : Nat → Bool) (l : List UInt8) : Bool := !l.isEmpty && l.all fun c => g c.toNat
def tagL (l : List UInt8) : List UInt8 := l.takeWhile fun c => tagN c.toNat
def tagO (l : List UInt8) : Option (List UInt8) := if tagL l ≠ [] ∧ l[(tagL l).length]? = some 32 then some (tagL l) else none
def tagV (l : List UInt8) : Value :=
 match tagO l with
 | some t => .tuple #[.string ⟨t.toArray⟩, .int .i64 ((t.length : Int) + 1), .bool true]
 | none => .tuple #[.string ⟨#[]⟩, .int .i64 0, .bool false]
section
open Go.Lib
def YQ (c : UInt8) : List UInt8 → List (List UInt8)
 | [] => [[]]
 | b :: l => if b = c then [] :: YQ c l else match YQ c l with
   | [] => [[b]]
   | p :: ps => (b :: p) :: ps
theorem splitL_ne (c : UInt8) : ∀ l, YQ c l ≠ []
 | [] => by simp [YQ]
 | b :: l => by
   unfold YQ
   split
   · simp
   · split <;> simp
theorem splitL_none {c : UInt8} : ∀ {l : List UInt8}, c ∉ l → YQ c l = [l]
 | [], _ => rfl
 | b :: l, h => by
   have h1 : b ≠ c := fun e => h (by simp [e])
   have h2 : c ∉ l := fun e => h (by simp [e])
   unfold YQ
   rw [if_neg h1, splitL_none h2]
theorem splitL_at {c : UInt8} : ∀ {a b : List UInt8}, c ∉ a → YQ c (a ++ c :: b) = a :: YQ c b
 | [], b, _ => by simp [YQ]
 | x :: a, b, h => by
   have h1 : x ≠ c := fun e => h (by simp [e])
   have h2 : c ∉ a := fun e => h (by simp [e])
   rw [List.cons_append, YQ, if_neg h1, splitL_at h2]
theorem index_neg {l : List UInt8} {c : UInt8} (h : indexByte l c < 0) : indexByte l c = -1 ∧ c ∉ l := by
 have h1 := indexByte_ge l c
 have h2 : indexByte l c = -1 := by omega
 refine ⟨h2, fun hm => ?_⟩
 obtain ⟨k, hk⟩ := List.getElem?_of_mem hm
 exact indexByte_none h2 k hk
theorem index_nat {l : List UInt8} {c : UInt8} (h : ¬ indexByte l c < 0) : ∃ o : Nat, indexByte l c = o ∧ o < l.length ∧ c ∉ l.take o ∧ l = l.take o ++ c :: l.drop (o + 1) := by
 obtain ⟨o, ho⟩ : ∃ o : Nat, indexByte l c = o := ⟨(indexByte l c).toNat, by omega⟩
 obtain ⟨h1, h2⟩ := indexByte_some ho
 have hlt : o < l.length := (List.getElem?_eq_some_iff.1 h1).1
 refine ⟨o, ho, hlt, fun hm => ?_, ?_⟩
 · obtain ⟨k, hk⟩ := List.getElem?_of_mem hm
   have hk2 : k < o := by
    have := (List.getElem?_eq_some_iff.1 hk).1
    rw [List.length_take] at this
    omega
   rw [List.getElem?_take_of_lt hk2] at hk
   exact h2 k hk2 hk
 · have he : l[o] = c := (List.getElem?_eq_some_iff.1 h1).2
   conv => lhs; rw [← List.take_append_drop o l, List.drop_eq_getElem_cons hlt, he]
end
abbrev R := Nat × Nat
def encR (r : R) : List Value := [.int .u32 (r.1 : Int), .int .u32 (r.2 : Int)]
theorem encR_len (x : R) : (encR x).length = 2 := rfl
theorem encR_one (x : R) : ∀ v ∈ encR x, v.oneCell' = true := by intro v hv; simp [encR] at hv; rcases hv with rfl | rfl <;> rfl
section
variable {α : Type} {enc : α → List Value} {k : Nat} {w w' : World} {A : Option Addr} {l : List α}
def SlAt (enc : α → List Value) (k : Nat) (w : World) (A : Option Addr) (l : List α) : Prop :=
 l = [] ∨ ∃ b off, A = some ⟨b, off, none⟩ ∧ b < w.heap.size ∧ ∀ j x, l[j]? = some x → ∀ i v, (enc x)[i]? = some v → w.cell? ⟨b, off + j * k + i, none⟩ = some v
theorem SlAt.nil : SlAt enc k w A [] := .inl rfl
theorem SlAt.below (h : SlAt enc k w A l) (hb : Below w.heap.size w w') : SlAt enc k w' A l := by
 rcases h with h | ⟨b, off, hA, hlt, hc⟩
 · exact .inl h
 · exact .inr ⟨b, off, hA, Nat.lt_of_lt_of_le hlt hb.size, fun j x hj i v hi => (hb.cell (p := ⟨b, off + j * k + i, none⟩) hlt).trans (hc j x hj i v hi)⟩
theorem SlAt.at_ (h : SlAt enc k w A l) {j : Nat} (hj : j < l.length) :
 ∃ b off, A = some ⟨b, off, none⟩ ∧ b < w.heap.size ∧ ∀ i v, (enc l[j])[i]? = some v → w.cell? ⟨b, off + j * k + i, none⟩ = some v := by
 rcases h with rfl | ⟨b, off, hA, hlt, hc⟩
 · simp at hj
 · exact ⟨b, off, hA, hlt, hc j _ (List.getElem?_eq_getElem hj)⟩
def YF (enc : α → List Value) (l : List α) : List Value := l.flatMap enc
theorem ZR (a b : List α) : YF enc (a ++ b) = YF enc a ++ YF enc b := by simp [YF]
theorem flatL_length (hk : ∀ x, (enc x).length = k) (l : List α) : (YF enc l).length = l.length * k := by
 induction l with
 | nil => simp [YF]
 | cons x l ih =>
   have : YF enc (x :: l) = enc x ++ YF enc l := rfl
   rw [this, List.length_append, ih, hk, List.length_cons, Nat.add_mul, Nat.one_mul, Nat.add_comm]
theorem flatL_at (hk : ∀ x, (enc x).length = k) (l : List α) (j : Nat) (x : α) (hj : l[j]? = some x) (i : Nat) (v : Value) (hi : (enc x)[i]? = some v) : (YF enc l)[j * k + i]? = some v := by
 induction l generalizing j with
 | nil => simp at hj
 | cons y l ih =>
   have e : YF enc (y :: l) = enc y ++ YF enc l := rfl
   have hik : i < k := by rw [← hk x]; exact (List.getElem?_eq_some_iff.1 hi).1
   rw [e]
   cases j with
   | zero =>
     obtain rfl : y = x := by simpa using hj
     rw [List.getElem?_append_left (by rw [hk]; omega)]
     simpa using hi
   | succ j =>
     have hj' : l[j]? = some x := by simpa using hj
     rw [List.getElem?_append_right (by rw [hk, Nat.add_mul]; omega), hk]
     have e2 : (j + 1) * k + i - k = j * k + i := by rw [Nat.add_mul]; omega
     rw [e2]
     exact ih j hj'
theorem SlAt.of_own {base : Nat} {e : TypeId} {n c : Nat} (hk : ∀ x, (enc x).length = k) (h : w.ownsRow base e k (.slice A n c) l.length (YF enc l)) : SlAt enc k w A l := by
 rcases h.2 with ⟨h1, h2⟩ | ⟨g, cap, cur, h1, hg, hh, _⟩
 · exact .inl (List.eq_nil_of_length_eq_zero h2)
 · injection h1 with h1 h2 h3
   subst h1
   refine .inr ⟨g, 0, rfl, ?_, fun j x hj i v hi => ?_⟩
   · rcases Nat.lt_or_ge g w.heap.size with hlt | hge
     · exact hlt
     · rw [Array.getElem?_eq_none hge] at hh; cases hh
   · have := h.cells (g := g) rfl (j * k + i) v (flatL_at hk l j x hj i v hi)
     rw [Addr.add_lit] at this
     simpa using this
end
section
variable {α : Type} {enc : α → List Value} {size : Nat}
theorem flatL_find (hk : ∀ x, (enc x).length = size) (l : List α) (j : Nat) (u : Value) (h : (YF enc l)[j]? = some u) : ∃ q r x, j = q * size + r ∧ l[q]? = some x ∧ (enc x)[r]? = some u := by
 induction l generalizing j with
 | nil => simp [YF] at h
 | cons y l ih =>
   have e : YF enc (y :: l) = enc y ++ YF enc l := rfl
   rw [e] at h
   by_cases hj : j < (enc y).length
   · rw [List.getElem?_append_left hj] at h
     exact ⟨0, j, y, by omega, rfl, h⟩
   · rw [List.getElem?_append_right (by omega)] at h
     obtain ⟨q, r, x, h1, h2, h3⟩ := ih _ h
     refine ⟨q + 1, r, x, ?_, by simpa using h2, h3⟩
     rw [hk] at h1 hj
     rw [Nat.add_mul]
     omega
variable {P : Program} (w : World)
theorem append_none (base : Nat) (t ty e : TypeId) (i : TypeInfo) (ht : P.underlying t = some (.slice e)) (hi : P.info? e = some i)
 (v : Value) (n : Nat) (xs : List Value) (hown : w.ownsRow base e size v n xs) (c : Nat) : (Builtin.append_ #[t, t] ty #[v, .slice none 0 c]).run P w = .ok v w := by
 rcases hown.2 with ⟨rfl, rfl⟩ | ⟨g, cap, cur, rfl, _, _, hnc, _⟩
 · simp [Builtin.append_, run_underlying ht, sizeOf, typeInfo, hi, Builtin.lenOf, Builtin.firstCells]
 · simp [Builtin.append_, run_underlying ht, sizeOf, typeInfo, hi, Builtin.lenOf, Builtin.firstCells, hnc, storeCells]
theorem append_sl (base : Nat) (t ty e : TypeId) (i : TypeInfo) (z : Value) (bytes : Nat) (ht : P.underlying t = some (.slice e)) (hi : P.info? e = some i) (hz : i.zero = some z)
 (hsize : i.size = size) (hby : i.bytes = bytes) (hzs : z.cells.size = size) (hsz : 0 < size)
 (v : Value) (n : Nat) (xs : List Value) (hown : w.ownsRow base e size v n xs)
 (A : Option Addr) (l : List α) (c : Nat) (hk : ∀ x, (enc x).length = size) (hS : SlAt enc size w A l) (h1 : ∀ u ∈ YF enc l, u.oneCell' = true)
 (h63 : n + l.length ≤ maxLen) (hbytes : (n + l.length) * bytes ≤ 140737488355328) (hbase : base ≤ w.heap.size) :
 ∃ v' w', (Builtin.append_ #[t, t] ty #[v, .slice A l.length c]).run P w = .ok v' w' ∧ w'.ownsRow base e size v' (n + l.length) (xs ++ YF enc l) ∧ w.grownBy w' v.ownBlock := by
 rcases A with _ | ad
 · rcases hS with rfl | ⟨b, off, hA, _⟩
   · exact ⟨v, w, append_none w base t ty e i ht hi v n xs hown c, by simpa [YF] using hown, World.grownBy.refl w _⟩
   · cases hA
 · have hcells : ∀ j u, (YF enc l)[j]? = some u → w.cell? (ad.add j) = some u := by
    intro j u hu
    rcases hS with rfl | ⟨b, off, hA, _, hc⟩
    · simp [YF] at hu
    · injection hA with hA
      subst hA
      obtain ⟨q, r, x, rfl, h2, h3⟩ := flatL_find hk l j u hu
      have := hc q x h2 r u h3
      rw [Addr.add_lit, ← Nat.add_assoc]
      exact this
   obtain ⟨v', w', hrun, h2, h3, _⟩ := run_append_own_at (P := P) w base t ty e i z size bytes ht hi hz hsize hby hzs hsz v n xs hown ad l.length c (YF enc l) (flatL_length hk l) hcells h1 h63 hbytes hbase
   exact ⟨v', w', hrun, h2, h3⟩
theorem YL {ops : Array Oper} {rest : List Oper} {o : Oper} {a : Act} {Q : Exit → Act → World → Prop} (hgd : o.guard = none) (s x : Operand) (t : TypeId)
 (ho : o.op = .call { callee := .builtin .append, args := #[s, x], argTypes := #[t, t] })
 (base : Nat) (e : TypeId) (i : TypeInfo) (z : Value) (bytes : Nat) (ht : P.underlying t = some (.slice e)) (hi : P.info? e = some i) (hz : i.zero = some z)
 (hsize : i.size = size) (hby : i.bytes = bytes) (hzs : z.cells.size = size) (hsz : 0 < size)
 (v : Value) (n : Nat) (xs : List Value) (hs : a.eval s = v) (hown : w.ownsRow base e size v n xs)
 (A : Option Addr) (l : List α) (c : Nat) (hx : a.eval x = .slice A l.length c) (hk : ∀ x, (enc x).length = size) (hS : SlAt enc size w A l) (h1 : ∀ u ∈ YF enc l, u.oneCell' = true)
 (h63 : n + l.length ≤ maxLen) (hbytes : (n + l.length) * bytes ≤ 140737488355328) (hbase : base ≤ w.heap.size)
 (h : ∀ v' w', w'.ownsRow base e size v' (n + l.length) (xs ++ YF enc l) → w.grownBy w' v.ownBlock → wpList P ops Q rest (a.put o.dst v') w') : wpList P ops Q (o :: rest) a w := by
 obtain ⟨v', w', hrun, h2, h3⟩ := append_sl (P := P) w base t o.type e i z bytes ht hi hz hsize hby hzs hsz v n xs hown A l c hk hS h1 h63 hbytes hbase
 refine wpList_plain hgd fun K hK => ?_
 unfold Oper.wp execOp
 simp only [ho, resolve, invoke, builtin, Sem.run_bind, Sem.run_pure, Result.andThen_ok, List.map_toArray, List.map_cons, List.map_nil, hs, hx, hrun]
 exact hK _ _ (h v' w' h2 h3)
theorem own_empty {W : World} {base b0 : Nat} {T : TypeId} {sz : Nat} (h : W.heap[b0]? = some (.cells #[] T)) (hb : base ≤ b0) : W.ownsRow base T sz (.slice (some ⟨b0, 0, none⟩) 0 0) 0 [] :=
 ⟨by simp, .inr ⟨b0, 0, #[], rfl, hb, h, Nat.le_refl _, Nat.zero_le _, by simp, by simp⟩⟩
end
def YR (T : TypeId) (A B : World) : Prop := A.heap.size ≤ B.heap.size ∧ ∀ (i : Nat) (cs : Array Value) (fr : Nat × Nat), A.heap[i]? = some (Obj.cells cs T fr) → B.heap[i]? = some (Obj.cells cs T fr)
theorem YR.refl (T : TypeId) (A : World) : YR T A A := ⟨Nat.le_refl _, fun _ _ _ h => h⟩
theorem keepsT_t {T : TypeId} {A B C : World} (h : YR T A B) (k : YR T B C) : YR T A C := ⟨Nat.le_trans h.1 k.1, fun i cs fr hi => k.2 i cs fr (h.2 i cs fr hi)⟩
theorem YR.grown {T : TypeId} {A B : World} {row : Option Nat} (hg : A.grownBy B row) (hr : ∀ r, row = some r → ∀ (cs : Array Value) (fr : Nat × Nat), A.heap[r]? ≠ some (Obj.cells cs T fr)) : YR T A B :=
 ⟨hg.size, fun i cs fr hi => by
  rw [hg.block i (Array.getElem?_eq_some_iff.1 hi).1 (fun e => hr i e.symm cs fr hi)]
  exact hi⟩
theorem YR.alloc {T : TypeId} {A B : World} (h : YR T A B) (o : Obj) : YR T A (B.alloc o) :=
 ⟨Nat.le_trans h.1 (by simp), fun i cs fr hi => by
  have := h.2 i cs fr hi
  exact (Below.heap_alloc B o i (Array.getElem?_eq_some_iff.1 this).1).trans this⟩
theorem YR.own {T : TypeId} {A B : World} (h : YR T A B) {base size n : Nat} {v : Value} {xs : List Value} (ho : A.ownsRow base T size v n xs) : B.ownsRow base T size v n xs := by
 refine ⟨ho.1, ?_⟩
 rcases ho.2 with h1 | ⟨g, cap, cur, h1, h2, h3, h4⟩
 · exact .inl h1
 · exact .inr ⟨g, cap, cur, h1, h2, h.2 _ _ _ h3, h4⟩
theorem YR.box {T : TypeId} {A B : World} (h : YR T A B) {i : Nat} {cs : Array Value} (hi : A.heap[i]? = some (Obj.cells cs T (0, 0))) : B.heap[i]? = some (Obj.cells cs T (0, 0)) := h.2 _ _ _ hi
theorem box_cell {A : World} {T : TypeId} {i : Nat} {cs : Array Value} (hi : A.heap[i]? = some (Obj.cells cs T (0, 0))) (j : Nat) (v : Value) (hj : cs[j]? = some v) : A.cell? ⟨i, j, none⟩ = some v := by
 rw [cell_of_row A i j cs T (0, 0) hi]; exact hj
theorem ZG (W : World) (b o : Nat) (v : Value) : W.grownBy (W.setCell ⟨b, o, none⟩ v) (some b) :=
 ⟨rfl, rfl, rfl, by simp [World.setCell], fun k _ hk => Below.heap_setCell _ _ _ k (fun e => hk (by rw [e]))⟩
theorem YR.setAt {T T' : TypeId} {A B : World} {b : Nat} {cs : Array Value} {fr : Nat × Nat} (h : YR T A B) (hb : B.heap[b]? = some (Obj.cells cs T' fr)) (hT : T' ≠ T) (o : Nat) (v : Value) : YR T A (B.setCell ⟨b, o, none⟩ v) :=
 keepsT_t h (YR.grown (ZG B b o v) (fun r e _ _ hc => by
  cases e
  have := hb.symm.trans hc
  simp at this
  exact hT this.2.1))
theorem YR.set_ {T T' : TypeId} {A B : World} {b : Nat} {u : Value} (h : YR T A B) (hb : Boxed B b T' u) (hT : T' ≠ T) (v : Value) : YR T A (B.setCell ⟨b, 0, none⟩ v) :=
 h.setAt (show B.heap[b]? = _ from hb) hT 0 v
theorem YR.below {T : TypeId} {A B C : World} (h : YR T A B) (hb : Below B.heap.size B C) : YR T A C :=
 keepsT_t h ⟨hb.size, fun i _ _ hi => (hb.block i (Array.getElem?_eq_some_iff.1 hi).1).trans hi⟩
theorem YR.own_app {T e : TypeId} {W w1 : World} {base size n : Nat} {v : Value} {xs : List Value} (hrow : W.ownsRow base e size v n xs) (hT : e ≠ T) (hg : W.grownBy w1 v.ownBlock) : YR T W w1 :=
 YR.grown hg (fun r er _ _ hc => by
  rcases hrow.2 with ⟨rfl, _⟩ | ⟨g, cap, cur, rfl, _, hgb, _⟩
  · simp [Value.ownBlock] at er
  · obtain rfl : g = r := by simpa [Value.ownBlock] using er
    have := hgb.symm.trans hc
    simp at this
    exact hT this.2.1)
theorem YR.app {T e : TypeId} {W w1 : World} {base size n : Nat} {v : Value} {xs : List Value} {tmp : Obj} (hrow : W.ownsRow base e size v n xs) (hT : e ≠ T) (hg : (W.alloc tmp).grownBy w1 v.ownBlock) : YR T W w1 :=
 keepsT_t ((YR.refl T W).alloc tmp) (YR.grown hg (fun r er _ _ hc => by
  rcases (hrow.alloc tmp).2 with ⟨rfl, _⟩ | ⟨g, cap, cur, rfl, _, hgb, _⟩
  · simp [Value.ownBlock] at er
  · obtain rfl : g = r := by simpa [Value.ownBlock] using er
    have := hgb.symm.trans hc
    simp at this
    exact hT this.2.1))
theorem ZP {w w' : World} {base : Nat} {e : TypeId} {size n : Nat} {v : Value} {xs : List Value} (h : w.ownsRow base e size v n xs) (hb : Below w.heap.size w w') : w'.ownsRow base e size v n xs := by
 refine ⟨h.1, ?_⟩
 rcases h.2 with h1 | ⟨g, cap, cur, h1, h2, h3, h4⟩
 · exact .inl h1
 · exact .inr ⟨g, cap, cur, h1, h2, (hb.block g (Array.getElem?_eq_some_iff.1 h3).1).trans h3, h4⟩
theorem YV {w : World} {base : Nat} {e : TypeId} {size n : Nat} {v : Value} {xs : List Value} (h : w.ownsRow base e size v n xs) : ∃ A c, v = .slice A n c := by
 rcases h.2 with ⟨rfl, rfl⟩ | ⟨g, cap, cur, rfl, _⟩
 · exact ⟨_, _, rfl⟩
 · exact ⟨_, _, rfl⟩
theorem YE {w w' : World} {row : Option Nat} (h : Below w.heap.size w w') : w.grownBy w' row := ⟨h.os, h.tape, h.output, h.size, fun k hk _ => h.block k hk⟩
theorem YH {w w' : World} {b : Nat} (h : w.grownBy w' (some b)) (i : Nat) (v : Value) : w.grownBy (w'.setCell ⟨b, i, none⟩ v) (some b) := h.trans (ZG w' b i v)
def encB (c : UInt8) : List Value := [.int .u8 (c.toNat : Int)]
theorem encB_len (c : UInt8) : (encB c).length = 1 := rfl
theorem flatB (l : List UInt8) : YF encB l = l.map fun c => Value.int .u8 (c.toNat : Int) := by
 induction l with
 | nil => rfl
 | cons n l ih =>
   have : YF encB (n :: l) = encB n ++ YF encB l := rfl
   rw [this, ih]
   rfl
theorem one_flatB (l : List UInt8) : ∀ u ∈ YF encB l, u.oneCell' = true := by
 intro u hu
 rw [flatB] at hu
 obtain ⟨r, _, rfl⟩ := List.mem_map.1 hu
 rfl
structure ByAt (B : Nat) (w : World) (A : Option Addr) (c : Nat) (l : List UInt8) : Prop where
 le : l.length ≤ c
 lies : l = [] ∨ ∃ b off, A = some ⟨b, off, none⟩ ∧ b < B ∧ b < w.heap.size ∧ ∀ j (h : j < l.length), w.cell? ⟨b, off + j, none⟩ = some (.int .u8 (l[j].toNat : Int))
section
variable {B B' : Nat} {w w' : World} {A : Option Addr} {c : Nat} {l : List UInt8}
theorem ByAt.nil (B : Nat) (w : World) (A : Option Addr) (c : Nat) : ByAt B w A c [] := ⟨Nat.zero_le _, .inl rfl⟩
theorem ByAt.mono (h : ByAt B w A c l) (hB : B ≤ B') : ByAt B' w A c l := by
 refine ⟨h.le, ?_⟩
 rcases h.lies with h0 | ⟨b, off, hA, hb, hw, hc⟩
 · exact .inl h0
 · exact .inr ⟨b, off, hA, by omega, hw, hc⟩
theorem ByAt.below (h : ByAt B w A c l) (hb : Below B w w') : ByAt B w' A c l := by
 refine ⟨h.le, ?_⟩
 rcases h.lies with h0 | ⟨b, off, hA, hlt, hw, hc⟩
 · exact .inl h0
 · exact .inr ⟨b, off, hA, hlt, Nat.lt_of_lt_of_le hw hb.size, fun j hj => (hb.cell (p := ⟨b, off + j, none⟩) hlt).trans (hc j hj)⟩
theorem ByAt.grow (h : ByAt B w A c l) (hb : Below w.heap.size w w') : ByAt B w' A c l := by
 refine ⟨h.le, ?_⟩
 rcases h.lies with h0 | ⟨b, off, hA, hlt, hw, hc⟩
 · exact .inl h0
 · exact .inr ⟨b, off, hA, hlt, Nat.lt_of_lt_of_le hw hb.size, fun j hj => (hb.cell (p := ⟨b, off + j, none⟩) hw).trans (hc j hj)⟩
theorem ByAt.here (h : ByAt B w A c l) : ByAt w.heap.size w A c l := by
 refine ⟨h.le, ?_⟩
 rcases h.lies with h0 | ⟨b, off, hA, hlt, hw, hc⟩
 · exact .inl h0
 · exact .inr ⟨b, off, hA, hw, hw, hc⟩
theorem ByAt.cell (h : ByAt B w A c l) {j : Nat} (hj : j < l.length) : ∃ b off, A = some ⟨b, off, none⟩ ∧ b < B ∧ b < w.heap.size ∧ w.cell? ⟨b, off + j, none⟩ = some (.int .u8 (l[j].toNat : Int)) := by
 rcases h.lies with rfl | ⟨b, off, hA, hb, hw, hc⟩
 · simp at hj
 · exact ⟨b, off, hA, hb, hw, hc j hj⟩
theorem ByAt.sl (h : ByAt B w A c l) : SlAt encB 1 w A l := by
 rcases h.lies with h0 | ⟨b, off, hA, hb, hw, hc⟩
 · exact .inl h0
 · refine .inr ⟨b, off, hA, hw, fun j x hj i v hi => ?_⟩
   obtain ⟨hlt, rfl⟩ := List.getElem?_eq_some_iff.1 hj
   have hi0 : i = 0 := by
    have := (List.getElem?_eq_some_iff.1 hi).1
    simp [encB] at this
    exact this
   subst hi0
   obtain rfl : v = .int .u8 (l[j].toNat : Int) := by simpa [encB] using hi.symm
   have := hc j hlt
   simpa using this
theorem ByAt.of_sl (h : SlAt encB 1 w A l) (hle : l.length ≤ c) : ByAt w.heap.size w A c l := by
 refine ⟨hle, ?_⟩
 rcases h with h0 | ⟨b, off, hA, hb, hc⟩
 · exact .inl h0
 · refine .inr ⟨b, off, hA, hb, hb, fun j hj => ?_⟩
   have := hc j _ (List.getElem?_eq_getElem hj) 0 _ rfl
   simpa using this
theorem ByAt.of_own {base e n : Nat} (h : w.ownsRow base e 1 (.slice A n c) l.length (YF encB l)) : ByAt w.heap.size w A c l := by
 refine ByAt.of_sl (SlAt.of_own encB_len h) ?_
 rcases h.2 with ⟨_, h0⟩ | ⟨g, cap, cur, h1, _, _, hn, _⟩
 · omega
 · injection h1 with _ _ h3
   omega
def offA (A : Option Addr) (c lo : Nat) : Option Addr := if c = lo then A else A.map (·.add (lo * 1))
theorem ByAt.cut (h : ByAt B w A c l) {lo hi : Nat} (h1 : lo ≤ hi) (h2 : hi ≤ l.length) : ByAt B w (offA A c lo) (c - lo) ((l.take hi).drop lo) := by
 have hlen : ((l.take hi).drop lo).length = hi - lo := by simp; omega
 have hle := h.le
 refine ⟨by rw [hlen]; omega, ?_⟩
 rcases h.lies with rfl | ⟨b, off, rfl, hb, hw, hc⟩
 · exact .inl (by simp)
 · by_cases h0 : lo = hi
   · exact .inl (List.eq_nil_of_length_eq_zero (by rw [hlen]; omega))
   · refine .inr ⟨b, off + lo, ?_, hb, hw, fun j hj => ?_⟩
     · unfold offA
       rw [if_neg (by omega)]
       simp [Addr.add]
     · rw [hlen] at hj
       rw [Nat.add_assoc, hc (lo + j) (by omega)]
       simp
theorem cut_len {lo hi : Nat} (h2 : hi ≤ l.length) : ((l.take hi).drop lo).length = hi - lo := by simp; omega
theorem ByAt.drop (h : ByAt B w A c l) {lo : Nat} (h1 : lo ≤ l.length) : ByAt B w (offA A c lo) (c - lo) (l.drop lo) := by
 have := h.cut h1 (Nat.le_refl _)
 rwa [List.take_length] at this
theorem ByAt.take (h : ByAt B w A c l) {hi : Nat} (h1 : hi ≤ l.length) : ByAt B w A c (l.take hi) := by
 refine ⟨by have := h.le; simp; omega, ?_⟩
 rcases h.lies with rfl | ⟨b, off, rfl, hb, hw, hc⟩
 · exact .inl (by simp)
 · refine .inr ⟨b, off, rfl, hb, hw, fun j hj => ?_⟩
   rw [List.length_take] at hj
   rw [hc j (by omega)]
   simp
end
theorem sizeB (w : World) : (sizeOf (Tryz.prog.elem 24)).run Tryz.prog w = .ok 1 w := by kernel_rfl
theorem undB : Tryz.prog.underlying 24 = some (.slice (Tryz.prog.elem 24)) := by kernel_rfl
theorem slice_lh (A : Option Addr) (n c lo hi : Nat) (h1 : lo ≤ hi) (h2 : hi ≤ c) (W : World) :
 (Instr.slice 24 (.slice A n c) (some (.int .i64 (lo : Int))) (some (.int .i64 (hi : Int))) none).run Tryz.prog W = .ok (.slice (offA A c lo) (hi - lo) (c - lo)) W := by
 rw [run_slice_lh W _ A n c undB .i64 .i64 lo hi (by omega) (by omega) (by omega), sizeB]
 rfl
theorem slice_l (A : Option Addr) (n c lo : Nat) (h1 : lo ≤ n) (W : World) :
 (Instr.slice 24 (.slice A n c) (some (.int .i64 (lo : Int))) none none).run Tryz.prog W = .ok (.slice (offA A c lo) (n - lo) (c - lo)) W := by
 rw [run_slice_l W _ A n c undB .i64 lo (by omega) (by omega), sizeB]
 rfl
theorem slice_h (A : Option Addr) (n c hi : Nat) (h1 : hi ≤ c) (W : World) :
 (Instr.slice 24 (.slice A n c) none (some (.int .i64 (hi : Int))) none).run Tryz.prog W = .ok (.slice A hi c) W := by
 rw [run_slice_h W _ A n c undB .i64 hi (by omega) (by omega), sizeB]
 have e : (if c = 0 then A else A.map (·.add (0 * 1))) = A := by
  split
  · rfl
  · rcases A with _ | ⟨b, o, s⟩ <;> simp [Addr.add]
 simp only [Result.andThen, sliced, e, Int.toNat_natCast, Nat.sub_zero]
theorem YY (x : Value) (lo hi mx : Option Value) (W : World) : (Instr.sliceAt 24 x lo hi mx).run Tryz.prog W = (Instr.slice 24 x lo hi mx).run Tryz.prog W := run_sliceAt_slice W _ _ _ _ _ undB
theorem convS (B : Nat) (w : World) (A : Option Addr) (c n : Nat) (l : List UInt8) (h : ByAt B w A c l) (hn : l.length = n) :
 (convert 24 9 (.slice A n c)).run Tryz.prog w = .ok (.string ⟨l.toArray⟩) w := by
 subst hn
 rcases h.lies with rfl | ⟨b, off, rfl, _, _, hc⟩
 · exact run_convert_bytes_zero w 24 5 Tryz.underlying24 Tryz.underlying5 A c 9 Tryz.underlying9
 · exact run_convert_bytes_back w 24 9 5 ⟨b, off, none⟩ c l Tryz.underlying24 Tryz.underlying5 Tryz.underlying9 (fun j hj => by rw [Addr.add_lit]; exact hc j hj)
theorem YD (w : World) (o : Obj) : (w.alloc o).heap[w.heap.size]? = some o := by
 show (w.heap.push o)[w.heap.size]? = _
 simp
theorem bytesRow_reads (s : ByteArray) (cap : Nat) (w : World) (g : Nat) (fr : Nat × Nat) (h : w.heap[g]? = some (.cells (bytesRow s cap) 5 fr)) (hc : s.size ≤ cap) : ByAt w.heap.size w (some ⟨g, 0, none⟩) cap s.data.toList := by
 have hg := (Array.getElem?_eq_some_iff.1 h).1
 refine ⟨by rw [Array.length_toList]; exact hc, .inr ⟨g, 0, rfl, hg, hg, fun j hj => ?_⟩⟩
 rw [Array.length_toList] at hj
 rw [Nat.zero_add, cell_of_row w g j _ _ _ h, bytesRow_at s cap j hj]
 simp
theorem convB (w : World) (s : ByteArray) (m : Nat) (hm : s.size = m) : ∃ cap w', (convert 9 24 (.string s)).run Tryz.prog w = .ok (.slice (some ⟨w.heap.size, 0, none⟩) m cap) w' ∧ Below w.heap.size w w' ∧ ByAt w'.heap.size w' (some ⟨w.heap.size, 0, none⟩) cap s.data.toList ∧ m ≤ cap ∧ w'.heap.size = w.heap.size + 1 ∧
 w'.heap[w.heap.size]? = some (.cells (bytesRow s cap) 5 ((bytesRow s cap).size, (bytesRow s cap).size + 1)) := by
 subst hm
 have hr := run_bytes_of_string (P := Tryz.prog) w 9 24 5 s Tryz.underlying9 Tryz.underlying24 Tryz.underlying5
 have hc := grownCap_ge w s.size 0 5
 generalize grownCap w s.size 0 5 = cap at hr hc
 have hn := YD w.drew (.cells (bytesRow s cap) 5 ((bytesRow s cap).size, (bytesRow s cap).size + 1))
 exact ⟨cap, _, hr, (Below.refl w.heap.size w).drew.alloc (Nat.le_refl _) _, bytesRow_reads s cap _ _ _ hn hc, hc, World.size_alloc _ _, hn⟩
theorem YB (w : World) (o : Obj) : Below w.heap.size w (w.alloc o) := (Below.refl _ _).alloc (Nat.le_refl _) _
theorem ZJ {B : Nat} {a x : World} (h : Below B a x) : Below B a x.drew := h.trans (Below.refl B x).drew
theorem belDrawN {B : Nat} {a x : World} (h : Below B a x) (n : Nat) : Below B a (x.drewN n) := h.trans ⟨rfl, rfl, rfl, Nat.le_refl _, fun _ _ => rfl⟩
theorem ZY {a x : World} (h : Below a.heap.size a x) (o : Obj) : Below a.heap.size a (x.alloc o) := YA h (YB x o)
theorem belSet {a x : World} {b i : Nat} (h : Below a.heap.size a x) (hb : a.heap.size ≤ b) (v : Value) : Below a.heap.size a (x.setCell ⟨b, i, none⟩ v) := h.setCell (p := ⟨b, i, none⟩) hb v
theorem infoByte : (Tryz.prog.info? 5).map (fun i => (i.zero, i.size, i.bytes)) = some (some (.int .u8 0), 1, 1) := by kernel_rfl
theorem bytesRow_size (s : ByteArray) (cap : Nat) (h : s.size ≤ cap) : (bytesRow s cap).size = cap := by
 have e : s.data.size = s.size := rfl
 simp [bytesRow, e]; omega
section
open Go.Maps
section
variable {H : Type} {P : Program} (w : World) {ops : Array Oper} {rest : List Oper} {o : Oper} {a : Act} {Q : Exit → Act → World → Prop}
theorem YJ
 (hg : o.guard = none) (m x v : Operand) (t : TypeId) (hop : o.op = Op.insert t m x v)
 (k e : TypeId) (K : Keyed P k) (ht : P.underlying t = some (.map k e)) (R : Value → Option (DataW H × List MemPlace)) (b n : Nat) (D : DataW H)
 (hm : a.eval m = .map (some b)) (hown : w.ownsMap P k R b n D) (hn : n < maxLen) (key val : Value) (kl : Lit) (hx : a.eval x = key) (hv : a.eval v = val) (hkey : keyOf P k key = some kl)
 (d : DataW H) (ps : List MemPlace) (hval : R val = some (d, ps))
 (hK : ∀ w', w'.ownsMap P k R b (n + 1) (D.put kl d) → w.grownBy w' (some b) → wpList P ops Q rest (a.put o.dst undef) w') :
 wpList P ops Q (o :: rest) a w := by
 refine wpList_plain hg fun K' hK' => ?_
 obtain ⟨w', hrun, r1, r2⟩ := hown.update K ht hn hkey hval
 unfold Oper.wp
 simp [execOp, hop, hm, hx, hv, hrun, Result.andThen]
 exact hK' _ _ (hK w' r1 r2)
theorem wpList_lookup_own_string
 (hg : o.guard = none) (m x : Operand) (t : TypeId) (hop : o.op = Op.lookup t m x false)
 (k e : TypeId) (K : Keyed P k) (ht : P.underlying t = some (.map k e)) (he : P.underlying e = some .string) (hz : (zeroValue e).run P w = .ok (.string ⟨#[]⟩) w)
 (b n : Nat) (D : DataW H)
 (hm : a.eval m = .map (some b)) (hown : w.ownsMap P k (plainElem P e) b n D) (key : Value) (kl : Lit) (hx : a.eval x = key) (hkey : keyOf P k key = some kl)
 (hK : ∀ s : ByteArray, D.atKey kl (.lit (.string [])) = .lit (.string s.data.toList) → wpList P ops Q rest (a.put o.dst (.string s)) w) :
 wpList P ops Q (o :: rest) a w := by
 refine wpList_plain hg fun K' hK' => ?_
 obtain ⟨v, ps, hrun, hv⟩ := hown.lookup K ht hz (plainElem_string (H := H) he (s := ⟨#[]⟩) (by decide)) hkey
 obtain ⟨s, rfl, hc, hwc⟩ := plainElem_string_inv he hv
 simp only [Prod.mk.injEq] at hc
 unfold Oper.wp
 simp [execOp, hop, hm, hx, hrun, Result.andThen]
 exact hK' _ _ (hK s hc.1)
end
theorem map_below {H : Type} {P : Program} {k : TypeId} {R : Value → Option (DataW H × List MemPlace)} {w w' : World} {b n : Nat} {D : DataW H} (hm : w.ownsMap P k R b n D) (hb : Below w.heap.size w w') : w'.ownsMap P k R b n D :=
 hm.kept (row := none) ⟨hb.os, hb.tape, hb.output, hb.size, fun k hk _ => hb.block k hk⟩ (by simp)
def YX (f : Nat) : List UInt8 :=
 if f = 1 then [92, 65, 110, 115, 119, 101, 114, 101, 100] else if f = 2 then [92, 70, 108, 97, 103, 103, 101, 100] else if f = 4 then [92, 68, 101, 108, 101, 116, 101, 100]
 else if f = 8 then [92, 83, 101, 101, 110] else if f = 16 then [92, 68, 114, 97, 102, 116] else []
def strD (l : List UInt8) : DataW Unit := .lit (.string l)
def flgD (f : Nat) : DataW Unit := .lit (.int .u8 (f : Int))
def nmD : DataW Unit := (((((DataW.map []).put (.int .u8 1) (strD (YX 1))).put (.int .u8 2) (strD (YX 2))).put (.int .u8 4) (strD (YX 4))).put (.int .u8 8) (strD (YX 8))).put (.int .u8 16) (strD (YX 16))
def flagU (l : List UInt8) : Nat :=
 if l = upL (YX 1) then 1 else if l = upL (YX 2) then 2 else if l = upL (YX 4) then 4 else if l = upL (YX 8) then 8 else if l = upL (YX 16) then 16 else 0
def flagL (l : List UInt8) : Nat := flagU (upL l)
def ones : List Nat := [1, 2, 4, 8, 16]
def eachL (f : Nat) : List Nat := ones.filter fun o => f &&& o != 0
theorem QG {x : Nat} : x ∈ ones ↔ x = 1 ∨ x = 2 ∨ x = 4 ∨ x = 8 ∨ x = 16 := by simp [ones]
theorem nm_at (x : Int) (z : DataW Unit) : nmD.atKey (.int .u8 x) z = if x = 1 then strD (YX 1) else if x = 2 then strD (YX 2) else if x = 4 then strD (YX 4) else if x = 8 then strD (YX 8) else if x = 16 then strD (YX 16) else z := by
 have hne : ∀ {a b : Int}, a ≠ b → Lit.int IntKind.u8 a ≠ .int .u8 b := fun h e => by injection e; contradiction
 by_cases h1 : x = 1
 · subst h1; rfl
 by_cases h2 : x = 2
 · subst h2; rfl
 by_cases h4 : x = 4
 · subst h4; rfl
 by_cases h8 : x = 8
 · subst h8; rfl
 by_cases h16 : x = 16
 · subst h16; rfl
 rw [if_neg h1, if_neg h2, if_neg h4, if_neg h8, if_neg h16]
 unfold nmD
 rw [atKey_put_other (hne h16), atKey_put_other (hne h8), atKey_put_other (hne h4), atKey_put_other (hne h2), atKey_put_other (hne h1)]
 rfl
theorem nm_name (x : Nat) : nmD.atKey (.int .u8 (x : Int)) (strD []) = strD (YX x) := by
 rw [nm_at]
 by_cases h1 : x = 1
 · subst h1; rfl
 by_cases h2 : x = 2
 · subst h2; rfl
 by_cases h4 : x = 4
 · subst h4; rfl
 by_cases h8 : x = 8
 · subst h8; rfl
 by_cases h16 : x = 16
 · subst h16; rfl
 rw [if_neg (by omega), if_neg (by omega), if_neg (by omega), if_neg (by omega), if_neg (by omega)]
 unfold YX
 rw [if_neg h1, if_neg h2, if_neg h4, if_neg h8, if_neg h16]
theorem nm_found {x : Int} {c : List UInt8} (hat : ∀ zd, nmD.atKey (.int .u8 x) zd = strD c) : ∃ f : Nat, x = (f : Int) ∧ f ∈ ones ∧ c = YX f := by
 have h1 := hat (flgD 0)
 rw [nm_at] at h1
 have inj : ∀ {a b : List UInt8}, strD a = strD b → b = a := fun h => by unfold strD at h; injection h with h; injection h with h; exact h.symm
 split at h1
 · rename_i e; exact ⟨1, e, by decide, inj h1⟩
 split at h1
 · rename_i e; exact ⟨2, e, by decide, inj h1⟩
 split at h1
 · rename_i e; exact ⟨4, e, by decide, inj h1⟩
 split at h1
 · rename_i e; exact ⟨8, e, by decide, inj h1⟩
 split at h1
 · rename_i e; exact ⟨16, e, by decide, inj h1⟩
 unfold flgD strD at h1
 cases h1
theorem flagU_name {f : Nat} (hf : f ∈ ones) : flagU (upL (YX f)) = f := by
 rcases QG.1 hf with rfl | rfl | rfl | rfl | rfl <;> decide
theorem flagU_is (l : List UInt8) : flagU l = 0 ∨ (flagU l ∈ ones ∧ l = upL (YX (flagU l))) := by
 unfold flagU
 split
 · rename_i h; exact .inr ⟨by decide, h⟩
 split
 · rename_i h; exact .inr ⟨by decide, h⟩
 split
 · rename_i h; exact .inr ⟨by decide, h⟩
 split
 · rename_i h; exact .inr ⟨by decide, h⟩
 split
 · rename_i h; exact .inr ⟨by decide, h⟩
 · exact .inl rfl
theorem flagU_eq {l : List UInt8} {f : Nat} (hf : f ∈ ones) : flagU l = f ↔ l = upL (YX f) := by
 constructor
 · intro h
   rcases flagU_is l with h0 | ⟨_, h1⟩
   · rw [h0] at h; subst h; simp [ones] at hf
   · rw [h] at h1; exact h1
 · rintro rfl; exact flagU_name hf
def FlagsInv (D : DataW Unit) (left : Lit → Bool) : Prop :=
 IsMap D ∧ ∀ l z, D.atKey (.string l) z = if flagU l ≠ 0 ∧ left (.int .u8 (flagU l : Int)) = false then flgD (flagU l) else z
def FlagsD (D : DataW Unit) : Prop := ∀ l z, D.atKey (.string l) z = if flagU l ≠ 0 then flgD (flagU l) else z
theorem flags_start : FlagsInv (.map []) (has nmD) := by
 refine ⟨isMap_empty, fun l z => ?_⟩
 rw [if_neg]
 · rfl
 · rintro ⟨h0, h1⟩
   rcases flagU_is l with h | ⟨h, _⟩
   · exact h0 h
   · rcases QG.1 h with e | e | e | e | e <;> (rw [e] at h1; revert h1; decide)
theorem flags_step {D : DataW Unit} {left : Lit → Bool} {f : Nat} (hf : f ∈ ones) (h : FlagsInv D left) :
 FlagsInv (D.put (.string (upL (YX f))) (flgD f)) (fun z => left z && !z.sameKey (.int .u8 (f : Int))) := by
 refine ⟨h.1.put _ _, fun l z => ?_⟩
 by_cases e : l = upL (YX f)
 · have h0 : flagU l = f := (flagU_eq hf).2 e
   have hs : (Lit.int .u8 (f : Int)).sameKey (.int .u8 (f : Int)) = true := by simp [Lit.sameKey]
   have hne : f ≠ 0 := by rintro rfl; simp [ones] at hf
   rw [h0, if_pos ⟨hne, by simp only [hs]; simp⟩, e]
   exact atKey_put_same h.1 (by simp [WideAt.IsKeyLit]) _ _
 · rw [atKey_put_other (fun h => e (by injection h)), h.2 l z]
   by_cases h0 : flagU l = 0
   · rw [if_neg (fun h => h.1 h0), if_neg (fun h => h.1 h0)]
   · have hne : (flagU l : Int) ≠ f := fun h => e ((flagU_eq hf).1 (by omega))
     have hs : (Lit.int .u8 (flagU l : Int)).sameKey (.int .u8 (f : Int)) = false := by simp [Lit.sameKey]; omega
     simp only [hs]
     simp
theorem flags_end {D : DataW Unit} {left : Lit → Bool} (h : FlagsInv D left) (hl : ∀ kl, left kl = false) : FlagsD D := fun l z => by
 rw [h.2 l z]
 simp [hl]
theorem FlagsD.has {D : DataW Unit} (h : FlagsD D) (l : List UInt8) : Maps.has D (.string l) = decide (flagU l ≠ 0) := by
 by_cases h0 : flagU l = 0
 · rw [has_false_of_atKey (fun z => by rw [h l z, if_neg (by simpa using h0)])]
   simp [h0]
 · rw [has_true_of_atKey (fun z => by rw [h l z, if_pos h0])]
   simp [h0]
theorem FlagsD.at {D : DataW Unit} (h : FlagsD D) {l : List UInt8} {c : Int} (hat : D.atKey (.string l) (.lit (.int .u8 0)) = .lit (.int .u8 c)) : c = (flagU l : Int) := by
 rw [h l] at hat
 split at hat
 · unfold flgD at hat; injection hat with hat; injection hat with _ hat; exact hat.symm
 · rename_i h0
   injection hat with hat
   injection hat with _ hat
   have : flagU l = 0 := by simpa using h0
   rw [this]; exact hat.symm
end
def orF (ps : List (List UInt8)) : Nat := ps.foldl (fun a p => a ||| flagL p) 0
def allF (ps : List (List UInt8)) : Bool := ps.all fun p => flagL p != 0
def namesO (ps : List (List UInt8)) : Option Nat := if allF ps = true then some (orF ps) else none
def innerL (l : List UInt8) : List UInt8 := (l.take (l.length - 1)).drop 1
def parseF (l : List UInt8) : Option Nat :=
 if l = [40, 41] then some 0 else if 2 ≤ l.length ∧ l[0]? = some 40 ∧ l[l.length - 1]? = some 41 then namesO (YQ 32 (innerL l)) else none
theorem flagL_lt (p : List UInt8) : flagL p < 32 := by
 rcases flagU_is (upL p) with h | ⟨h, _⟩
 · unfold flagL; omega
 · unfold flagL; rcases QG.1 h with e | e | e | e | e <;> omega
theorem orF_snoc (ps : List (List UInt8)) (p : List UInt8) : orF (ps ++ [p]) = orF ps ||| flagL p := by simp [orF]
theorem foldF_lt (ps : List (List UInt8)) : ∀ a, a < 32 → ps.foldl (fun a p => a ||| flagL p) a < 32 := by
 induction ps with
 | nil => intro a h; exact h
 | cons p ps ih => intro a h; exact ih _ (Nat.or_lt_two_pow (n := 5) h (flagL_lt p))
theorem orF_lt (ps : List (List UInt8)) : orF ps < 32 := foldF_lt ps 0 (by decide)
theorem allF_snoc (ps : List (List UInt8)) (p : List UInt8) : allF (ps ++ [p]) = (allF ps && (flagL p != 0)) := by simp [allF]
def spL (ps : List (List UInt8)) : List UInt8 := Lib.join ps [32]
def listL (f : Nat) : List UInt8 := 40 :: (spL ((eachL f).map YX) ++ [41])
theorem spL_nil : spL [] = [] := rfl
theorem spL_one (p : List UInt8) : spL [p] = p := Lib.join_one p _
theorem spL_cons (p q : List UInt8) (ps : List (List UInt8)) : spL (p :: q :: ps) = p ++ 32 :: spL (q :: ps) := by
 unfold spL
 rw [Lib.join_cons, Lib.join_cons]
 simp [Lib.joinTail]
theorem split_spL : ∀ (ps : List (List UInt8)), ps ≠ [] → (∀ p ∈ ps, (32 : UInt8) ∉ p) → YQ 32 (spL ps) = ps
 | [], h, _ => absurd rfl h
 | [p], _, h => by rw [spL_one]; exact splitL_none (h p (by simp))
 | p :: q :: ps, _, h => by
   rw [spL_cons, splitL_at (h p (by simp)), split_spL (q :: ps) (by simp) (fun x hx => h x (by simp [hx]))]
theorem parse_list {ps : List (List UInt8)} (h : ps ≠ []) (hs : ∀ p ∈ ps, (32 : UInt8) ∉ p) (h0 : ∃ p ∈ ps, p ≠ []) : parseF (40 :: (spL ps ++ [41])) = namesO ps := by
 have hl : (40 :: (spL ps ++ [41])).length = (spL ps).length + 2 := by simp
 have hne : spL ps ≠ [] := by
  intro e
  have := split_spL ps h hs
  rw [e] at this
  obtain ⟨p, hp, hp0⟩ := h0
  rw [← this] at hp
  simp [YQ] at hp
  exact hp0 hp
 have hi : innerL (40 :: (spL ps ++ [41])) = spL ps := by
  unfold innerL
  rw [hl]
  simp
 unfold parseF
 rw [if_neg, if_pos, hi, split_spL ps h hs]
 · refine ⟨by rw [hl]; omega, rfl, ?_⟩
   rw [hl, show (spL ps).length + 2 - 1 = (spL ps).length + 1 by omega, List.getElem?_cons_succ]
   simp
 · intro e
   injection e with _ e
   cases hx : spL ps with
   | nil => exact hne hx
   | cons a r =>
     rw [hx] at e
     simp at e
theorem name_len (f : Nat) : (YX f).length ≤ 9 := by
 unfold YX
 repeat (split; decide)
 decide
theorem eachL_ones {f x : Nat} (h : x ∈ eachL f) : x ∈ ones := (List.mem_filter.1 h).1
section
open Go.Maps
theorem ofInt_i64 (a : Nat) (ha : a < 18446744073709551616) : (BitVec.ofInt 64 (a : Int)).toNat = a := by
 rw [BitVec.ofInt_natCast, BitVec.toNat_ofNat]; exact Nat.mod_eq_of_lt (by omega)
theorem wrap_i64_nat (a : Nat) (ha : a < 256) : IntKind.i64.wrap (a : Int) = (a : Int) := by
 have h : (a : Int) % 18446744073709551616 = a := by omega
 simp only [IntKind.wrap, IntKind.bits, IntKind.signed, Bool.true_and, Int.reducePow, Nat.reduceSub, ge_iff_le, h, decide_eq_true_eq]
 rw [if_neg (by omega)]
theorem i64_and_nat (a b : Nat) (ha : a < 256) (hb : b < 256) : bits .and .i64 (a : Int) (b : Int) = ((a &&& b : Nat) : Int) := by
 have hx : a &&& b < 2 ^ 8 := Nat.and_lt_two_pow _ (by omega)
 show IntKind.i64.wrap ((BitVec.ofInt 64 (a : Int) &&& BitVec.ofInt 64 (b : Int)).toNat : Int) = _
 rw [BitVec.toNat_and, ofInt_i64 a (by omega), ofInt_i64 b (by omega)]
 exact wrap_i64_nat _ hx
theorem i64_or_nat (a b : Nat) (ha : a < 256) (hb : b < 256) : bits .or .i64 (a : Int) (b : Int) = ((a ||| b : Nat) : Int) := by
 have hx : a ||| b < 2 ^ 8 := Nat.or_lt_two_pow (by omega) (by omega)
 show IntKind.i64.wrap ((BitVec.ofInt 64 (a : Int) ||| BitVec.ofInt 64 (b : Int)).toNat : Int) = _
 rw [BitVec.toNat_or, ofInt_i64 a (by omega), ofInt_i64 b (by omega)]
 exact wrap_i64_nat _ hx
theorem bit64_yes {f o : Nat} (hf : f < 256) (ho : o < 256) (h : f &&& o = 0) : (bits BinOp.and IntKind.i64 (f : Int) (o : Int) == 0) = true := by
 rw [i64_and_nat f o hf ho, h]; rfl
theorem bit64_no {f o : Nat} (hf : f < 256) (ho : o < 256) (h : f &&& o ≠ 0) : (bits BinOp.and IntKind.i64 (f : Int) (o : Int) == 0) = false := by
 rw [i64_and_nat f o hf ho]
 simp only [beq_eq_false_iff_ne, ne_eq, Int.natCast_eq_zero]
 exact h
end
def verbB (k : Nat) : List UInt8 :=
 if k = 1 then [78, 79, 79, 80] else if k = 2 then [76, 79, 71, 79, 85, 84] else if k = 3 then [67, 76, 79, 83, 69] else if k = 4 then [69, 88, 80, 85, 78, 71, 69]
 else if k = 5 then [83, 69, 76, 69, 67, 84] else if k = 6 then [65, 80, 80, 69, 78, 68] else if k = 7 then [70, 69, 84, 67, 72] else if k = 8 then [83, 84, 79, 82, 69] else []
def QJ (l : List UInt8) : Nat :=
 if l = verbB 1 then 1 else if l = verbB 2 then 2 else if l = verbB 3 then 3 else if l = verbB 4 then 4 else if l = verbB 5 then 5 else if l = verbB 6 then 6 else if l = verbB 7 then 7 else if l = verbB 8 then 8 else 0
def YC (l : List UInt8) : Nat := QJ (upL l)
theorem kindU_le (l : List UInt8) : QJ l ≤ 8 := by
 unfold QJ
 repeat' split
 all_goals omega
theorem kindL_le (l : List UInt8) : YC l ≤ 8 := kindU_le _
def ZB (k : Nat) : List UInt8 :=
 if k = 1 then [70, 76, 65, 71, 83] else if k = 2 then [85, 73, 68] else if k = 4 then [82, 70, 67, 56, 50, 50, 46, 83, 73, 90, 69] else if k = 8 then [66, 79, 68, 89, 46, 80, 69, 69, 75, 91, 93]
 else if k = 16 then [66, 79, 68, 89, 91, 93] else []
def itemU (l : List UInt8) : Nat :=
 if l = ZB 1 then 1 else if l = ZB 2 then 2 else if l = ZB 4 then 4 else if l = ZB 8 then 8 else if l = ZB 16 then 16 else 0
def itemL (l : List UInt8) : Nat := itemU (upL l)
def silB : List UInt8 := [46, 83, 73, 76, 69, 78, 84]
def modeU (l : List UInt8) : Option Nat :=
 if l = [70, 76, 65, 71, 83] then some 0 else if l = [43, 70, 76, 65, 71, 83] then some 1 else if l = [45, 70, 76, 65, 71, 83] then some 2 else none
def cutS (l : List UInt8) : List UInt8 × Bool := (Lib.trimSuffix l silB, Lib.hasSuffix l silB)
def modeL (l : List UInt8) : Option (Nat × Bool) := (modeU (cutS (upL l)).1).map fun m => (m, (cutS (upL l)).2)
def orI (ps : List (List UInt8)) : Nat := ps.foldl (fun a p => a ||| itemL p) 0
def itemsO (ps : List (List UInt8)) : Option Nat := if ps ≠ [] ∧ (ps.all fun p => itemL p != 0) = true then some (orI ps) else none
def verbLs : List (List UInt8) := [[], verbB 1, verbB 2, verbB 3, verbB 4, verbB 5, verbB 6, verbB 7, verbB 8]
def verbZ (k : Int) : List UInt8 := if 1 ≤ k ∧ k ≤ 8 then verbB k.toNat else []
def idxI (ls : List (List UInt8)) (x : List UInt8) : Int := if x ∈ ls then (ls.idxOf x : Int) else -1
theorem kindU_verb {k : Nat} (hk : 1 ≤ k ∧ k ≤ 8) : QJ (verbB k) = k := by
 have h2 : k = 1 ∨ k = 2 ∨ k = 3 ∨ k = 4 ∨ k = 5 ∨ k = 6 ∨ k = 7 ∨ k = 8 := by omega
 rcases h2 with rfl | rfl | rfl | rfl | rfl | rfl | rfl | rfl <;> decide
theorem kindU_is (l : List UInt8) : QJ l = 0 ∨ (1 ≤ QJ l ∧ QJ l ≤ 8 ∧ l = verbB (QJ l)) := by
 unfold QJ
 repeat' split
 all_goals first | exact .inl rfl | (rename_i h; exact .inr ⟨by omega, by omega, h⟩)
theorem kindU_eq {l : List UInt8} {k : Nat} (hk : 1 ≤ k ∧ k ≤ 8) : QJ l = k ↔ l = verbB k := by
 constructor
 · intro h
   rcases kindU_is l with h0 | ⟨_, _, h1⟩
   · omega
   · rw [h] at h1; exact h1
 · rintro rfl; exact kindU_verb hk
theorem idx_kind (l : List UInt8) : max (idxI verbLs l) 0 = (QJ l : Int) := by
 unfold idxI
 rcases kindU_is l with h0 | ⟨h1, h8, he⟩
 · rw [h0]
   by_cases hm : l ∈ verbLs
   · rw [if_pos hm]
     simp only [verbLs, List.mem_cons, List.not_mem_nil, or_false] at hm
     rcases hm with rfl | hm
     · rfl
     · exfalso
       rcases hm with rfl | rfl | rfl | rfl | rfl | rfl | rfl | rfl <;> revert h0 <;> decide
   · rw [if_neg hm]; decide
 · generalize QJ l = k at *
   subst he
   have h2 : k = 1 ∨ k = 2 ∨ k = 3 ∨ k = 4 ∨ k = 5 ∨ k = 6 ∨ k = 7 ∨ k = 8 := by omega
   rcases h2 with rfl | rfl | rfl | rfl | rfl | rfl | rfl | rfl <;> decide
def itms : List Nat := [1, 2, 4, 8, 16]
theorem itms_mem {x : Nat} : x ∈ itms ↔ x = 1 ∨ x = 2 ∨ x = 4 ∨ x = 8 ∨ x = 16 := by simp [itms]
theorem itemU_name {f : Nat} (hf : f ∈ itms) : itemU (ZB f) = f := by
 rcases itms_mem.1 hf with rfl | rfl | rfl | rfl | rfl <;> decide
theorem itemU_is (l : List UInt8) : itemU l = 0 ∨ (itemU l ∈ itms ∧ l = ZB (itemU l)) := by
 unfold itemU
 repeat' split
 all_goals first | exact .inl rfl | (rename_i h; exact .inr ⟨by decide, h⟩)
theorem itemU_eq {l : List UInt8} {f : Nat} (hf : f ∈ itms) : itemU l = f ↔ l = ZB f := by
 constructor
 · intro h
   rcases itemU_is l with h0 | ⟨_, h1⟩
   · rw [h0] at h; subst h; simp [itms] at hf
   · rw [h] at h1; exact h1
 · rintro rfl; exact itemU_name hf
theorem itemU_le (l : List UInt8) : itemU l ≤ 16 := by
 rcases itemU_is l with h | ⟨h, _⟩
 · omega
 · rcases itms_mem.1 h with e | e | e | e | e <;> omega
theorem itemU_lt (l : List UInt8) : itemU l < 32 := by have := itemU_le l; omega
theorem foldI_lt (ps : List (List UInt8)) : ∀ a, a < 32 → ps.foldl (fun a p => a ||| itemL p) a < 32 := by
 induction ps with
 | nil => intro a h; exact h
 | cons p ps ih => intro a h; exact ih _ (Nat.or_lt_two_pow (n := 5) h (itemU_lt _))
theorem orI_lt (ps : List (List UInt8)) : orI ps < 32 := foldI_lt ps 0 (by decide)
def bitsK (f k : Nat) : List Nat := (ones.take k).filter fun o => f &&& o != 0
theorem bitsK_succ {f k o : Nat} (ho : ones[k]? = some o) : bitsK f (k + 1) = bitsK f k ++ (if f &&& o = 0 then [] else [o]) := by
 unfold bitsK
 have hk : k < ones.length := (List.getElem?_eq_some_iff.1 ho).1
 have hget : ones[k] = o := (List.getElem?_eq_some_iff.1 ho).2
 rw [List.take_succ_eq_append_getElem hk, List.filter_append, hget]
 by_cases h : f &&& o = 0 <;> simp [h]
def bitAtK (k o : Nat) : Prop := k ≤ 5 ∧ o = 2 ^ k
theorem bitAtK.ones {k o : Nat} (h : bitAtK k o) (h16 : o ≤ 16) : ones[k]? = some o ∧ bitAtK (k + 1) (2 * o) ∧ k ≤ 4 := by
 obtain ⟨hk, rfl⟩ := h
 have h5 : k = 0 ∨ k = 1 ∨ k = 2 ∨ k = 3 ∨ k = 4 ∨ k = 5 := by omega
 rcases h5 with rfl | rfl | rfl | rfl | rfl | rfl
 all_goals first
  | exact ⟨rfl, ⟨by omega, rfl⟩, by omega⟩
  | (exfalso; revert h16; decide)
theorem bitAtK.last {k o : Nat} (h : bitAtK k o) (h16 : ¬ o ≤ 16) : k = 5 := by
 obtain ⟨hk, rfl⟩ := h
 have h5 : k = 0 ∨ k = 1 ∨ k = 2 ∨ k = 3 ∨ k = 4 ∨ k = 5 := by omega
 rcases h5 with rfl | rfl | rfl | rfl | rfl | rfl
 all_goals first
  | rfl
  | (exfalso; apply h16; decide)
def itemsT (n : Nat) : List UInt8 := 40 :: (spL ((eachL n).map ZB) ++ [41])
theorem itemB_len (f : Nat) : (ZB f).length ≤ 11 := by
 unfold ZB
 repeat' split
 all_goals decide
def modeT (m : Nat) (si : Bool) : List UInt8 := (if m = 0 then [70, 76, 65, 71, 83] else if m = 1 then [43, 70, 76, 65, 71, 83] else [45, 70, 76, 65, 71, 83]) ++ (if si then silB else [])
end Go.Proofs.YtpgfnlhfciacoaaGreatDoor
