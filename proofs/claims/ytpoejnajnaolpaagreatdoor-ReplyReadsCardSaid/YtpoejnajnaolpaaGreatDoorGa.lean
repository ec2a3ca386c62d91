/- Small facts on worlds that only grow. Plain facts, no walk. -/
import Derived.Test.YtpoejnajnaolpaaGreatDoorChecked
import Derived.WalkKit
import Derived.WalkLawsBesides
import Derived.WalkSpells
import Derived.Lib.LaidTab
import Derived.Lib.ItoaMem
import Derived.Lib.Hide
import Derived.Lib.Bytealg
import Derived.Lib.IndexLaws
import Derived.Maps.Ext
import Derived.Lib.Join
import Derived.Laws.AppendOwn
import Derived.Laws.OwnMore
import Derived.Shelf.SlicesQ.Load
import Derived.Maps.AppendAt
import Derived.Deep.AppendLies
import Derived.RegionTactic
import Derived.OwnWalk
import Derived.RangeFuncBox
import Derived.Laws.Slices
import Derived.Laws.IdiomStrings
import Derived.Shelf.Bytes.SlSmallAll
import Derived.ArgAppend
import Derived.Maps.StringElems
import Derived.Maps.OwnIn
import Derived.Laws.BitsAllLaws
import Derived.Maps.OwnSet
import Derived.Orders
import Derived.BigRegion
import Derived.Lib.ConvBytes
import Derived.Lib.SmallJoins
namespace Go.Proofs.YtpoejnajnaolpaaGreatDoor
open Go.RowKit

theorem ret_bool {a b : Bool} (h : a = b) : Ending.returned (.bool a) = .returned (.bool b) := by rw [h]
theorem ret_int {k : IntKind} {a b : Int} (h : a = b) : Ending.returned (.int k a) = .returned (.int k b) := by rw [h]

theorem var_lt {w : World} {n : String} {g : Nat} {cs : Array Value} (hg : Tryz.prog.globalNamed n = some g) (h : w.var? Tryz.prog n = some cs) : g < w.heap.size := by
  unfold World.var? at h
  rcases Nat.lt_or_ge g w.heap.size with h' | h'
  · exact h'
  · rw [hg, Option.bind_some, Array.getElem?_eq_none h'] at h; simp at h

/-- Old cells and old marks behind a call that makes memory. -/
theorem bcell {W w1 : World} (hb : Below W.heap.size W w1) : (∀ b o, b < W.heap.size → w1.cell? ⟨b, o, none⟩ = W.cell? ⟨b, o, none⟩) ∧ (∀ b o, b < W.heap.size → w1.frozen? ⟨b, o, none⟩ = W.frozen? ⟨b, o, none⟩) :=
  ⟨fun b o h => hb.cell (p := ⟨b, o, none⟩) h, fun b o h => hb.frozen (p := ⟨b, o, none⟩) h⟩
/-- One step more behind what lay below. -/
theorem below_step {B : Nat} {a b c : World} (h : Below B a b) (k : Below b.heap.size b c) (hB : B ≤ b.heap.size) : Below B a c := h.trans (k.mono hB)
theorem below_next {a b c : World} (h : Below a.heap.size a b) (k : Below b.heap.size b c) : Below a.heap.size a c := h.trans (k.mono h.size)
theorem btl (s : ByteArray) : s.toList = s.data.toList := ByteArray.toList_eq s
theorem below_grow (w : World) (k : Nat) (os : Array Obj) : Below w.heap.size w (Sort.grow (w.drewN k) os) :=
  ⟨rfl, rfl, rfl, by simp [Sort.grow], fun i hi => by
    show ((w.drewN k).heap ++ os)[i]? = _
    rw [Array.getElem?_append_left (by show i < w.heap.size; omega)]
    rfl⟩
theorem take_snocB (s : ByteArray) (k : Nat) (h : k < s.size) : s.data.toList.take (k + 1) = s.data.toList.take k ++ [s[k]] := by
  rw [List.take_succ_eq_append_getElem (by simpa using h)]; rfl
theorem take_all (s : ByteArray) : s.data.toList.take s.size = s.data.toList := List.take_of_length_le (by simp)
end Go.Proofs.YtpoejnajnaolpaaGreatDoor

namespace Go.Proofs.YtpoejnajnaolpaaGreatDoor
open Go.RowKit

/-- The class of atom bytes. -/
def atomN (n : Nat) : Bool := decide (32 < n ∧ n < 127 ∧ n ≠ 34 ∧ n ≠ 37 ∧ n ≠ 40 ∧ n ≠ 41 ∧ n ≠ 42 ∧ n ≠ 92 ∧ n ≠ 93 ∧ n ≠ 123)
/-- The class of tag bytes. -/
def tagN (n : Nat) : Bool := decide (n = 93 ∨ 32 < n ∧ n < 127 ∧ n ≠ 34 ∧ n ≠ 37 ∧ n ≠ 40 ∧ n ≠ 41 ∧ n ≠ 42 ∧ n ≠ 92 ∧ n ≠ 123 ∧ n ≠ 43)
/-- The class of text bytes. -/
def textN (n : Nat) : Bool := decide (0 < n ∧ n < 128 ∧ n ≠ 10 ∧ n ≠ 13)
/-- The bit of a byte in four words. -/
def bitAt (a b c d : Int) (n : Nat) : Bool := bits BinOp.and IntKind.u64 ((if n / 64 = 0 then a else if n / 64 = 1 then b else if n / 64 = 2 then c else d) / 2 ^ (n % 64)) 1 == 1

theorem atom_bit : ∀ n : Fin 256, bitAt 18446736213919399936 8646911283746045951 0 0 n.val = atomN n.val := by decide +kernel
theorem tag_bit : ∀ n : Fin 256, bitAt 18446727417826377728 8646911284282916863 0 0 n.val = tagN n.val := by decide +kernel
theorem text_bit : ∀ n : Fin 256, bitAt 18446744073709542398 18446744073709551615 0 0 n.val = textN n.val := by decide +kernel

/-- A capital letter in the place of a small one. -/
def upN (n : Nat) : Nat := if 97 ≤ n ∧ n ≤ 122 then n - 32 else n
def upB (c : UInt8) : UInt8 := UInt8.ofNat (upN c.toNat)
def upL (l : List UInt8) : List UInt8 := l.map upB
theorem upN_lt {n : Nat} (h : n < 256) : upN n < 256 := by unfold upN; split <;> omega
theorem upB_toNat (c : UInt8) : (upB c).toNat = upN c.toNat := by
  unfold upB; rw [UInt8.toNat_ofNat']; exact Nat.mod_eq_of_lt (upN_lt c.toNat_lt)
theorem upN_upN (n : Nat) : upN (upN n) = upN n := by unfold upN; split <;> (try split) <;> omega
theorem upB_upB (c : UInt8) : upB (upB c) = upB c := by
  apply UInt8.toNat_inj.1; rw [upB_toNat, upB_toNat, upN_upN]
theorem upL_upL (l : List UInt8) : upL (upL l) = upL l := by
  unfold upL; rw [List.map_map]; exact List.map_congr_left fun c _ => upB_upB c
theorem upL_length (l : List UInt8) : (upL l).length = l.length := by simp [upL]
end Go.Proofs.YtpoejnajnaolpaaGreatDoor

namespace Go.Proofs.YtpoejnajnaolpaaGreatDoor
open Go.RowKit

/-- Bytes that have a backslash in front of them. -/
def spN (n : Nat) : Bool := decide (n = 34 ∨ n = 92)
def escC (c : UInt8) : List UInt8 := if spN c.toNat = true then [92, c] else [c]
def escL (l : List UInt8) : List UInt8 := l.flatMap escC
def quotedL (l : List UInt8) : List UInt8 := 34 :: (escL l ++ [34])
/-- All are text bytes. -/
def allT (l : List UInt8) : Bool := l.all fun c => textN c.toNat

theorem escL_nil : escL [] = [] := rfl
theorem escL_cons (c : UInt8) (l : List UInt8) : escL (c :: l) = escC c ++ escL l := rfl
theorem escL_append (a b : List UInt8) : escL (a ++ b) = escL a ++ escL b := by simp [escL]
theorem escC_len (c : UInt8) : (escC c).length ≤ 2 := by unfold escC; split <;> simp
theorem escL_len (l : List UInt8) : (escL l).length ≤ 2 * l.length := by
  induction l with
  | nil => simp [escL]
  | cons c l ih =>
    rw [escL_cons, List.length_append, List.length_cons]
    have := escC_len c
    omega
theorem escL_snoc (l : List UInt8) (k : Nat) (h : k < l.length) : escL (l.take (k + 1)) = escL (l.take k) ++ escC l[k] := by
  rw [List.take_succ_eq_append_getElem h, escL_append]
  simp [escL]
theorem allT_false (l : List UInt8) (k : Nat) (h : k < l.length) (ht : textN l[k].toNat = false) : allT l = false := by
  unfold allT
  rw [List.all_eq_false]
  exact ⟨l[k], List.getElem_mem _, by simp [ht]⟩
theorem allT_snoc (l : List UInt8) (k : Nat) (h : k < l.length) (ha : allT (l.take k) = true) (ht : textN l[k].toNat = true) : allT (l.take (k + 1)) = true := by
  unfold allT at *
  rw [List.take_succ_eq_append_getElem h, List.all_append, ha]
  simp [ht]
theorem allT_at {l : List UInt8} (h : allT l = true) {c : UInt8} (hc : c ∈ l) : textN c.toNat = true := by
  unfold allT at h
  exact List.all_eq_true.1 h c hc

/-- What the loop of Quoted keeps: collected ++ not yet collected is the form so far. -/
theorem q_step_plain {X l : List UInt8} {k f : Nat} (hk : k < l.length) (hf : f ≤ k) (h : X ++ ((l.take k).drop f) = 34 :: escL (l.take k)) (hs : spN l[k].toNat = false) : X ++ ((l.take (k + 1)).drop f) = 34 :: escL (l.take (k + 1)) := by
  have e1 : escC l[k] = [l[k]] := by unfold escC; rw [if_neg (by simp [hs])]
  have e2 : (l.take (k + 1)).drop f = (l.take k).drop f ++ [l[k]] := by
    rw [List.take_succ_eq_append_getElem hk, List.drop_append_of_le_length (by simp; omega)]
  rw [escL_snoc l k hk, e1, e2, ← List.append_assoc, h]
  rfl
theorem q_step_sp {X l : List UInt8} {k f : Nat} (hk : k < l.length) (h : X ++ ((l.take k).drop f) = 34 :: escL (l.take k)) (hs : spN l[k].toNat = true) : ((X ++ ((l.take k).drop f)) ++ [92]) ++ ((l.take (k + 1)).drop k) = 34 :: escL (l.take (k + 1)) := by
  have e1 : escC l[k] = [92, l[k]] := by unfold escC; rw [if_pos hs]
  have e2 : (l.take (k + 1)).drop k = [l[k]] := by
    rw [List.take_succ_eq_append_getElem hk, List.drop_append_of_le_length (by simp; omega)]
    simp
  rw [escL_snoc l k hk, e1, e2, h]
  simp
theorem q_end {X l : List UInt8} {f : Nat} (h : X ++ ((l.take l.length).drop f) = 34 :: escL (l.take l.length)) : (X ++ l.drop f) ++ [34] = quotedL l := by
  rw [List.take_length] at h
  rw [h]
  rfl
theorem q_len {X l : List UInt8} {k f : Nat} (hk : k ≤ l.length) (hf : f ≤ k) (h : X ++ ((l.take k).drop f) = 34 :: escL (l.take k)) : X.length + (k - f) ≤ 1 + 2 * k := by
  have h1 := congrArg List.length h
  have h2 := escL_len (l.take k)
  rw [List.length_append, List.length_drop, List.length_take, List.length_cons] at h1
  rw [List.length_take] at h2
  omega
end Go.Proofs.YtpoejnajnaolpaaGreatDoor

namespace Go.Proofs.YtpoejnajnaolpaaGreatDoor
open Go.RowKit

/-- How many bytes the next character takes (0: there is none). -/
def chN : List UInt8 → Nat
  | [] => 0
  | [c] => if c = 92 then 0 else if textN c.toNat = true then 1 else 0
  | c :: d :: _ => if c = 92 then (if spN d.toNat = true then 2 else 0) else if textN c.toNat = true then 1 else 0
/-- The bytes of a quoted form behind its opening mark, and how many bytes stand for them. -/
def qScan : List UInt8 → Option (List UInt8 × Nat)
  | [] => none
  | [c] => if c = 34 then some ([], 0) else none
  | c :: d :: r => if c = 34 then some ([], 0) else if c = 92 then (if spN d.toNat = true then (qScan r).map (fun p => (d :: p.1, p.2 + 2)) else none) else if textN c.toNat = true then (qScan (d :: r)).map (fun p => (c :: p.1, p.2 + 1)) else none

theorem q_mark (r : List UInt8) (h : r[0]? = some 34) : qScan r = some ([], 0) := by
  match r, h with
  | [c], h => simp at h; subst h; rfl
  | c :: d :: r, h => simp at h; subst h; rw [qScan]; rfl
theorem q_none (r : List UInt8) (h : r[0]? ≠ some 34) (hn : chN r = 0) : qScan r = none := by
  match r, h, hn with
  | [], _, _ => rfl
  | [c], h, _ => rw [qScan, if_neg (by simpa using h)]
  | c :: d :: r, h, hn =>
    rw [qScan, if_neg (by simpa using h)]
    rw [chN] at hn
    by_cases h92 : c = 92
    · rw [if_pos h92] at hn ⊢
      by_cases hs : spN d.toNat = true
      · rw [if_pos hs] at hn; cases hn
      · rw [if_neg hs]
    · rw [if_neg h92] at hn ⊢
      by_cases ht : textN c.toNat = true
      · rw [if_pos ht] at hn; cases hn
      · rw [if_neg ht]
/-- The byte that the next character stands for. -/
def chV (r : List UInt8) : UInt8 := if r[0]? = some 92 then r.getD 1 0 else r.getD 0 0
theorem q_char (r : List UInt8) (n : Nat) (h : r[0]? ≠ some 34) (hn : chN r = n) (h0 : 0 < n) : qScan r = (qScan (r.drop n)).map (fun p => (chV r :: p.1, p.2 + n)) := by
  match r, h, hn with
  | [], _, hn => subst hn; simp [chN] at h0
  | [c], h, hn =>
    rw [qScan, if_neg (by simpa using h)]
    rw [chN] at hn
    by_cases h92 : c = 92
    · rw [if_pos h92] at hn; omega
    · rw [if_neg h92] at hn
      by_cases ht : textN c.toNat = true
      · rw [if_pos ht] at hn; subst hn; rfl
      · rw [if_neg ht] at hn; omega
  | c :: d :: r, h, hn =>
    rw [qScan, if_neg (by simpa using h)]
    rw [chN] at hn
    by_cases h92 : c = 92
    · rw [if_pos h92] at hn ⊢
      by_cases hs : spN d.toNat = true
      · rw [if_pos hs] at hn ⊢
        subst hn
        subst h92
        rfl
      · rw [if_neg hs] at hn; omega
    · rw [if_neg h92] at hn ⊢
      by_cases ht : textN c.toNat = true
      · rw [if_pos ht] at hn ⊢
        subst hn
        have e : chV (c :: d :: r) = c := by unfold chV; rw [if_neg (by simpa using h92)]; rfl
        rw [e]
        rfl
      · rw [if_neg ht] at hn; omega
theorem chN_le (r : List UInt8) : chN r ≤ r.length := by
  match r with
  | [] => simp [chN]
  | [c] => rw [chN]; split <;> (try split) <;> simp
  | c :: d :: r => rw [chN]; split <;> (try split) <;> simp
theorem chN_two (r : List UInt8) : chN r ≤ 2 := by
  match r with
  | [] => simp [chN]
  | [c] => rw [chN]; split <;> (try split) <;> simp
  | c :: d :: r => rw [chN]; split <;> (try split) <;> simp

/-- Bytes with their backslashes struck; whether each backslash has a byte behind it. -/
def plainD : List UInt8 → List UInt8
  | [] => []
  | [c] => [c]
  | c :: d :: r => if c = 92 then d :: plainD r else c :: plainD (d :: r)
def wfB : List UInt8 → Bool
  | [] => true
  | [c] => decide (c ≠ 92)
  | c :: d :: r => if c = 92 then wfB r else wfB (d :: r)

theorem q_plain (r : List UInt8) (P : List UInt8) (n : Nat) (h : qScan r = some (P, n)) : n < r.length ∧ plainD (r.take n) = P ∧ wfB (r.take n) = true ∧ r[n]? = some 34 := by
  induction r using qScan.induct generalizing P n with
  | case1 => cases h
  | case2 =>
    simp [qScan] at h
    obtain ⟨rfl, rfl⟩ := h
    simp [plainD, wfB]
  | case3 c h34 =>
    rw [qScan, if_neg h34] at h
    cases h
  | case4 d r =>
    rw [qScan, if_pos rfl] at h
    simp at h
    obtain ⟨rfl, rfl⟩ := h
    simp [plainD, wfB]
  | case5 d r hs h34 ih =>
    rw [qScan, if_neg h34, if_pos rfl, if_pos hs] at h
    obtain ⟨p, hp, he⟩ := Option.map_eq_some_iff.1 h
    injection he with e1 e2
    subst e1; subst e2
    obtain ⟨a1, a2, a3, a4⟩ := ih p.1 p.2 hp
    refine ⟨by simp; omega, ?_, ?_, by simpa using a4⟩
    · simp [plainD, a2]
    · simp [wfB, a3]
  | case6 d r hs h34 =>
    rw [qScan, if_neg h34, if_pos rfl, if_neg hs] at h
    cases h
  | case7 c d r h34 h92 ht ih =>
    rw [qScan, if_neg h34, if_neg h92, if_pos ht] at h
    obtain ⟨p, hp, he⟩ := Option.map_eq_some_iff.1 h
    injection he with e1 e2
    subst e1; subst e2
    obtain ⟨a1, a2, a3, a4⟩ := ih p.1 p.2 hp
    refine ⟨by simp at a1 ⊢; omega, ?_, ?_, by simpa using a4⟩
    · rw [List.take_succ_cons]
      cases hp2 : p.2 with
      | zero =>
        rw [hp2] at a2
        simp [plainD] at a2 ⊢
        exact a2
      | succ m =>
        rw [hp2] at a2
        rw [List.take_succ_cons] at a2 ⊢
        rw [plainD, if_neg h92, a2]
    · rw [List.take_succ_cons]
      cases hp2 : p.2 with
      | zero => simp [wfB, h92]
      | succ m =>
        rw [hp2] at a3
        rw [List.take_succ_cons] at a3 ⊢
        rw [wfB, if_neg h92, a3]
  | case8 c d r h34 h92 ht =>
    rw [qScan, if_neg h34, if_neg h92, if_neg ht] at h
    cases h

theorem plain_none (b : List UInt8) (h : (92 : UInt8) ∉ b) : plainD b = b := by
  induction b using plainD.induct with
  | case1 => rfl
  | case2 c => rfl
  | case3 d r ih => simp at h
  | case4 c d r h92 ih => rw [plainD, if_neg h92, ih (fun hm => h (by simp at hm ⊢; right; exact hm))]
theorem plain_at (b u v : List UInt8) (hb : b = u ++ 92 :: v) (hu : (92 : UInt8) ∉ u) (hw : wfB b = true) : ∃ d v', v = d :: v' ∧ wfB v' = true ∧ plainD b = u ++ d :: plainD v' := by
  induction u generalizing b with
  | nil =>
    subst hb
    cases v with
    | nil => simp [wfB] at hw
    | cons d v' => exact ⟨d, v', rfl, by simpa [wfB] using hw, by simp [plainD]⟩
  | cons c u ih =>
    have hc : c ≠ 92 := fun e => hu (by simp [e])
    have hu' : (92 : UInt8) ∉ u := fun e => hu (by simp [e])
    have key : wfB (u ++ 92 :: v) = true ∧ plainD b = c :: plainD (u ++ 92 :: v) := by
      subst hb
      cases u with
      | nil => simp [wfB, hc] at hw; simp [plainD, hc, hw]
      | cons x u => simp [wfB, hc] at hw; simp [plainD, hc, hw]
    obtain ⟨d, v', h1, h2, h3⟩ := ih _ rfl hu' key.1
    exact ⟨d, v', h1, h2, by rw [key.2, h3]; rfl⟩

/-- What a walk over a form's inside keeps, from place f to place p: P are the bytes so far. -/
def QAt (l : List UInt8) (f p : Nat) (P : List UInt8) : Prop := f ≤ p ∧ qScan (l.drop f) = (qScan (l.drop p)).map (fun t => (P ++ t.1, t.2 + (p - f)))
theorem QAt.start (l : List UInt8) (f : Nat) : QAt l f f [] := by
  refine ⟨Nat.le_refl _, ?_⟩
  rw [Nat.sub_self]
  cases qScan (l.drop f) <;> rfl
theorem drop_at (l : List UInt8) (p : Nat) : (l.drop p)[0]? = l[p]? := by rw [List.getElem?_drop, Nat.add_zero]
theorem QAt.go {l : List UInt8} {f p n : Nat} {P : List UInt8} (h : QAt l f p P) (h34 : l[p]? ≠ some 34) (hn : chN (l.drop p) = n) (h0 : 0 < n) : QAt l f (p + n) (P ++ [chV (l.drop p)]) := by
  obtain ⟨h1, h2⟩ := h
  refine ⟨by omega, ?_⟩
  rw [h2, q_char _ n (by rw [drop_at]; exact h34) hn h0, List.drop_drop]
  cases qScan (l.drop (p + n)) with
  | none => rfl
  | some t =>
    simp only [Option.map_some, Option.some.injEq, Prod.mk.injEq]
    exact ⟨by simp, by omega⟩
theorem QAt.mark {l : List UInt8} {f p : Nat} {P : List UInt8} (h : QAt l f p P) (h34 : l[p]? = some 34) : qScan (l.drop f) = some (P, p - f) := by
  rw [h.2, q_mark _ (by rw [drop_at]; exact h34)]
  simp
theorem QAt.stop {l : List UInt8} {f p : Nat} {P : List UInt8} (h : QAt l f p P) (h34 : l[p]? ≠ some 34) (hn : chN (l.drop p) = 0) : qScan (l.drop f) = none := by
  rw [h.2, q_none _ (by rw [drop_at]; exact h34) hn]
  rfl
end Go.Proofs.YtpoejnajnaolpaaGreatDoor

namespace Go.Proofs.YtpoejnajnaolpaaGreatDoor
open Go.RowKit
open Go.Lib

/-- The parts of a string between the byte c: at least one. -/
def splitL (c : UInt8) : List UInt8 → List (List UInt8)
  | [] => [[]]
  | b :: l => if b = c then [] :: splitL c l else match splitL c l with
    | [] => [[b]]
    | p :: ps => (b :: p) :: ps
theorem splitL_ne (c : UInt8) : ∀ l, splitL c l ≠ []
  | [] => by simp [splitL]
  | b :: l => by
    unfold splitL
    split
    · simp
    · split <;> simp
theorem splitL_none {c : UInt8} : ∀ {l : List UInt8}, c ∉ l → splitL c l = [l]
  | [], _ => rfl
  | b :: l, h => by
    have h1 : b ≠ c := fun e => h (by simp [e])
    have h2 : c ∉ l := fun e => h (by simp [e])
    unfold splitL
    rw [if_neg h1, splitL_none h2]
theorem splitL_at {c : UInt8} : ∀ {a b : List UInt8}, c ∉ a → splitL c (a ++ c :: b) = a :: splitL c b
  | [], b, _ => by simp [splitL]
  | x :: a, b, h => by
    have h1 : x ≠ c := fun e => h (by simp [e])
    have h2 : c ∉ a := fun e => h (by simp [e])
    rw [List.cons_append, splitL, if_neg h1, splitL_at h2]

theorem index_neg {l : List UInt8} {c : UInt8} (h : indexByte l c < 0) : indexByte l c = -1 ∧ c ∉ l := by
  have h1 := indexByte_ge l c
  have h2 : indexByte l c = -1 := by omega
  refine ⟨h2, fun hm => ?_⟩
  obtain ⟨k, hk⟩ := List.getElem?_of_mem hm
  exact indexByte_none h2 k hk
theorem index_nat {l : List UInt8} {c : UInt8} (h : ¬ indexByte l c < 0) : ∃ o : Nat, indexByte l c = o ∧ o < l.length ∧ c ∉ l.take o ∧ l = l.take o ++ c :: l.drop (o + 1) := by
  obtain ⟨o, ho⟩ : ∃ o : Nat, indexByte l c = o := ⟨(indexByte l c).toNat, by omega⟩
  obtain ⟨h1, h2⟩ := indexByte_some ho
  have hlt : o < l.length := (List.getElem?_eq_some_iff.1 h1).1
  refine ⟨o, ho, hlt, fun hm => ?_, ?_⟩
  · obtain ⟨k, hk⟩ := List.getElem?_of_mem hm
    have hk2 : k < o := by
      have := (List.getElem?_eq_some_iff.1 hk).1
      rw [List.length_take] at this
      omega
    rw [List.getElem?_take_of_lt hk2] at hk
    exact h2 k hk2 hk
  · have he : l[o] = c := (List.getElem?_eq_some_iff.1 h1).2
    conv => lhs; rw [← List.take_append_drop o l, List.drop_eq_getElem_cons hlt, he]
end Go.Proofs.YtpoejnajnaolpaaGreatDoor

namespace Go.Proofs.YtpoejnajnaolpaaGreatDoor
open Go.RowKit Go.Maps

/-- The name of a flag. -/
def nameF (f : Nat) : List UInt8 :=
  if f = 1 then [92, 65, 110, 115, 119, 101, 114, 101, 100] else if f = 2 then [92, 70, 108, 97, 103, 103, 101, 100] else if f = 4 then [92, 68, 101, 108, 101, 116, 101, 100]
  else if f = 8 then [92, 83, 101, 101, 110] else if f = 16 then [92, 68, 114, 97, 102, 116] else []
def strD (l : List UInt8) : DataW Unit := .lit (.string l)
def flgD (f : Nat) : DataW Unit := .lit (.int .u8 (f : Int))
/-- The map of names, as it reads. -/
def nmD : DataW Unit := (((((DataW.map []).put (.int .u8 1) (strD (nameF 1))).put (.int .u8 2) (strD (nameF 2))).put (.int .u8 4) (strD (nameF 4))).put (.int .u8 8) (strD (nameF 8))).put (.int .u8 16) (strD (nameF 16))
/-- The flag of a name in capital letters, or 0. -/
def flagU (l : List UInt8) : Nat :=
  if l = upL (nameF 1) then 1 else if l = upL (nameF 2) then 2 else if l = upL (nameF 4) then 4 else if l = upL (nameF 8) then 8 else if l = upL (nameF 16) then 16 else 0
/-- The flag of a name in letters of any case, or 0. -/
def flagL (l : List UInt8) : Nat := flagU (upL l)
/-- As the reference says it: -1 for none. -/
def refO : Option Nat → Int
  | some x => x
  | none => -1
/-- The single flags. -/
def ones : List Nat := [1, 2, 4, 8, 16]
def eachL (f : Nat) : List Nat := ones.filter fun o => f &&& o != 0

theorem ones_mem {x : Nat} : x ∈ ones ↔ x = 1 ∨ x = 2 ∨ x = 4 ∨ x = 8 ∨ x = 16 := by simp [ones]

theorem isMap_nm : IsMap nmD := ((((isMap_empty.put _ _).put _ _).put _ _).put _ _).put _ _
/-- What stands in the map of names at a number. -/
theorem nm_at (x : Int) (z : DataW Unit) : nmD.atKey (.int .u8 x) z = if x = 1 then strD (nameF 1) else if x = 2 then strD (nameF 2) else if x = 4 then strD (nameF 4) else if x = 8 then strD (nameF 8) else if x = 16 then strD (nameF 16) else z := by
  have hne : ∀ {a b : Int}, a ≠ b → Lit.int IntKind.u8 a ≠ .int .u8 b := fun h e => by injection e; contradiction
  by_cases h1 : x = 1
  · subst h1; rfl
  by_cases h2 : x = 2
  · subst h2; rfl
  by_cases h4 : x = 4
  · subst h4; rfl
  by_cases h8 : x = 8
  · subst h8; rfl
  by_cases h16 : x = 16
  · subst h16; rfl
  rw [if_neg h1, if_neg h2, if_neg h4, if_neg h8, if_neg h16]
  unfold nmD
  rw [atKey_put_other (hne h16), atKey_put_other (hne h8), atKey_put_other (hne h4), atKey_put_other (hne h2), atKey_put_other (hne h1)]
  rfl
theorem nm_name (x : Nat) : nmD.atKey (.int .u8 (x : Int)) (strD []) = strD (nameF x) := by
  rw [nm_at]
  by_cases h1 : x = 1
  · subst h1; rfl
  by_cases h2 : x = 2
  · subst h2; rfl
  by_cases h4 : x = 4
  · subst h4; rfl
  by_cases h8 : x = 8
  · subst h8; rfl
  by_cases h16 : x = 16
  · subst h16; rfl
  rw [if_neg (by omega), if_neg (by omega), if_neg (by omega), if_neg (by omega), if_neg (by omega)]
  unfold nameF
  rw [if_neg h1, if_neg h2, if_neg h4, if_neg h8, if_neg h16]
/-- What has come out of the map of names. -/
theorem nm_found {x : Int} {c : List UInt8} (hat : ∀ zd, nmD.atKey (.int .u8 x) zd = strD c) : ∃ f : Nat, x = (f : Int) ∧ f ∈ ones ∧ c = nameF f := by
  have h1 := hat (flgD 0)
  rw [nm_at] at h1
  have inj : ∀ {a b : List UInt8}, strD a = strD b → b = a := fun h => by unfold strD at h; injection h with h; injection h with h; exact h.symm
  split at h1
  · rename_i e; exact ⟨1, e, by decide, inj h1⟩
  split at h1
  · rename_i e; exact ⟨2, e, by decide, inj h1⟩
  split at h1
  · rename_i e; exact ⟨4, e, by decide, inj h1⟩
  split at h1
  · rename_i e; exact ⟨8, e, by decide, inj h1⟩
  split at h1
  · rename_i e; exact ⟨16, e, by decide, inj h1⟩
  unfold flgD strD at h1
  cases h1

theorem flagU_name {f : Nat} (hf : f ∈ ones) : flagU (upL (nameF f)) = f := by
  rcases ones_mem.1 hf with rfl | rfl | rfl | rfl | rfl <;> decide
theorem flagU_is (l : List UInt8) : flagU l = 0 ∨ (flagU l ∈ ones ∧ l = upL (nameF (flagU l))) := by
  unfold flagU
  split
  · rename_i h; exact .inr ⟨by decide, h⟩
  split
  · rename_i h; exact .inr ⟨by decide, h⟩
  split
  · rename_i h; exact .inr ⟨by decide, h⟩
  split
  · rename_i h; exact .inr ⟨by decide, h⟩
  split
  · rename_i h; exact .inr ⟨by decide, h⟩
  · exact .inl rfl
theorem flagU_eq {l : List UInt8} {f : Nat} (hf : f ∈ ones) : flagU l = f ↔ l = upL (nameF f) := by
  constructor
  · intro h
    rcases flagU_is l with h0 | ⟨_, h1⟩
    · rw [h0] at h; subst h; simp [ones] at hf
    · rw [h] at h1; exact h1
  · rintro rfl; exact flagU_name hf

/-- The map of flags while it is filled: what is no longer to come is in it. -/
def FlagsInv (D : DataW Unit) (left : Lit → Bool) : Prop :=
  IsMap D ∧ ∀ l z, D.atKey (.string l) z = if flagU l ≠ 0 ∧ left (.int .u8 (flagU l : Int)) = false then flgD (flagU l) else z
/-- The map of flags. -/
def FlagsD (D : DataW Unit) : Prop := ∀ l z, D.atKey (.string l) z = if flagU l ≠ 0 then flgD (flagU l) else z

theorem flags_start : FlagsInv (.map []) (has nmD) := by
  refine ⟨isMap_empty, fun l z => ?_⟩
  rw [if_neg]
  · rfl
  · rintro ⟨h0, h1⟩
    rcases flagU_is l with h | ⟨h, _⟩
    · exact h0 h
    · rcases ones_mem.1 h with e | e | e | e | e <;> (rw [e] at h1; revert h1; decide)
theorem flags_step {D : DataW Unit} {left : Lit → Bool} {f : Nat} (hf : f ∈ ones) (h : FlagsInv D left) :
    FlagsInv (D.put (.string (upL (nameF f))) (flgD f)) (fun z => left z && !z.sameKey (.int .u8 (f : Int))) := by
  refine ⟨h.1.put _ _, fun l z => ?_⟩
  by_cases e : l = upL (nameF f)
  · have h0 : flagU l = f := (flagU_eq hf).2 e
    have hs : (Lit.int .u8 (f : Int)).sameKey (.int .u8 (f : Int)) = true := by simp [Lit.sameKey]
    have hne : f ≠ 0 := by rintro rfl; simp [ones] at hf
    rw [h0, if_pos ⟨hne, by simp only [hs]; simp⟩, e]
    exact atKey_put_same h.1 (by simp [WideAt.IsKeyLit]) _ _
  · rw [atKey_put_other (fun h => e (by injection h)), h.2 l z]
    by_cases h0 : flagU l = 0
    · rw [if_neg (fun h => h.1 h0), if_neg (fun h => h.1 h0)]
    · have hne : (flagU l : Int) ≠ f := fun h => e ((flagU_eq hf).1 (by omega))
      have hs : (Lit.int .u8 (flagU l : Int)).sameKey (.int .u8 (f : Int)) = false := by simp [Lit.sameKey]; omega
      simp only [hs]
      simp
theorem flags_end {D : DataW Unit} {left : Lit → Bool} (h : FlagsInv D left) (hl : ∀ kl, left kl = false) : FlagsD D := fun l z => by
  rw [h.2 l z]
  simp [hl]
theorem FlagsD.has {D : DataW Unit} (h : FlagsD D) (l : List UInt8) : Maps.has D (.string l) = decide (flagU l ≠ 0) := by
  by_cases h0 : flagU l = 0
  · rw [has_false_of_atKey (fun z => by rw [h l z, if_neg (by simpa using h0)])]
    simp [h0]
  · rw [has_true_of_atKey (fun z => by rw [h l z, if_pos h0])]
    simp [h0]
theorem FlagsD.at {D : DataW Unit} (h : FlagsD D) {l : List UInt8} {c : Int} (hat : D.atKey (.string l) (.lit (.int .u8 0)) = .lit (.int .u8 c)) : c = (flagU l : Int) := by
  rw [h l] at hat
  split at hat
  · unfold flgD at hat; injection hat with hat; injection hat with _ hat; exact hat.symm
  · rename_i h0
    injection hat with hat
    injection hat with _ hat
    have : flagU l = 0 := by simpa using h0
    rw [this]; exact hat.symm
end Go.Proofs.YtpoejnajnaolpaaGreatDoor

namespace Go.Proofs.YtpoejnajnaolpaaGreatDoor
open Go.RowKit

/-- The flags of some names together. -/
def orF (ps : List (List UInt8)) : Nat := ps.foldl (fun a p => a ||| flagL p) 0
def allF (ps : List (List UInt8)) : Bool := ps.all fun p => flagL p != 0
def namesO (ps : List (List UInt8)) : Option Nat := if allF ps = true then some (orF ps) else none
/-- What stands between the brackets. -/
def innerL (l : List UInt8) : List UInt8 := (l.take (l.length - 1)).drop 1
/-- The flags of a list. -/
def parseF (l : List UInt8) : Option Nat :=
  if l = [40, 41] then some 0 else if 2 ≤ l.length ∧ l[0]? = some 40 ∧ l[l.length - 1]? = some 41 then namesO (splitL 32 (innerL l)) else none

theorem flagL_lt (p : List UInt8) : flagL p < 32 := by
  rcases flagU_is (upL p) with h | ⟨h, _⟩
  · unfold flagL; omega
  · unfold flagL; rcases ones_mem.1 h with e | e | e | e | e <;> omega
theorem orF_snoc (ps : List (List UInt8)) (p : List UInt8) : orF (ps ++ [p]) = orF ps ||| flagL p := by simp [orF]
theorem foldF_lt (ps : List (List UInt8)) : ∀ a, a < 32 → ps.foldl (fun a p => a ||| flagL p) a < 32 := by
  induction ps with
  | nil => intro a h; exact h
  | cons p ps ih => intro a h; exact ih _ (Nat.or_lt_two_pow (n := 5) h (flagL_lt p))
theorem orF_lt (ps : List (List UInt8)) : orF ps < 32 := foldF_lt ps 0 (by decide)
theorem allF_snoc (ps : List (List UInt8)) (p : List UInt8) : allF (ps ++ [p]) = (allF ps && (flagL p != 0)) := by simp [allF]

/-- Where the reference stands: the names pre are read, the next begins at f, byte k is looked at. -/
def RefAt (l : List UInt8) (pre : List (List UInt8)) (f k : Nat) : Prop :=
  allF pre = true ∧ ((k < l.length ∧ (∀ j, f ≤ j → j < k → l[j]? ≠ some 32) ∧ pre ++ splitL 32 ((l.take (l.length - 1)).drop f) = splitL 32 (innerL l)) ∨ (k = l.length ∧ pre = splitL 32 (innerL l)))

theorem refAt_start {l : List UInt8} (h : 2 ≤ l.length) : RefAt l [] 1 1 :=
  ⟨rfl, .inl ⟨by omega, fun j h1 h2 => by omega, rfl⟩⟩
theorem refAt_skip {l : List UInt8} {pre : List (List UInt8)} {f k : Nat} (h : RefAt l pre f k) (hk : k + 1 < l.length) (hc : l[k]? ≠ some 32) : RefAt l pre f (k + 1) := by
  obtain ⟨ha, h | h⟩ := h
  · refine ⟨ha, .inl ⟨hk, fun j h1 h2 => ?_, h.2.2⟩⟩
    by_cases e : j = k
    · subst e; exact hc
    · exact h.2.1 j h1 (by omega)
  · omega
/-- The name that ends at k. -/
def segL (l : List UInt8) (f k : Nat) : List UInt8 := (l.drop f).take (k - f)
theorem seg_no {l : List UInt8} {f k : Nat} (h : ∀ j, f ≤ j → j < k → l[j]? ≠ some 32) : (32 : UInt8) ∉ segL l f k := by
  intro hm
  obtain ⟨i, hi⟩ := List.getElem?_of_mem hm
  unfold segL at hi
  have hlt := (List.getElem?_eq_some_iff.1 hi).1
  rw [List.length_take] at hlt
  rw [List.getElem?_take_of_lt (by omega), List.getElem?_drop] at hi
  exact h (f + i) (by omega) (by omega) hi
theorem seg_split {l : List UInt8} {f k : Nat} (hf : f ≤ k) (hk : k + 1 < l.length) (hc : l[k]? = some 32) :
    (l.take (l.length - 1)).drop f = segL l f k ++ 32 :: (l.take (l.length - 1)).drop (k + 1) := by
  have hlen : k < (l.take (l.length - 1)).length := by rw [List.length_take]; omega
  have h1 : ((l.take (l.length - 1)).drop f).take (k - f) = segL l f k := by
    unfold segL
    rw [List.drop_take, List.take_take]
    congr 1
    omega
  have h2 : ((l.take (l.length - 1)).drop f).drop (k - f) = (l.take (l.length - 1)).drop k := by
    rw [List.drop_drop]
    congr 1
    omega
  have h3 : (l.take (l.length - 1))[k] = 32 := by
    have : (l.take (l.length - 1))[k]? = some 32 := by rw [List.getElem?_take_of_lt (by omega)]; exact hc
    rw [List.getElem?_eq_getElem hlen] at this
    exact Option.some.inj this
  rw [← List.take_append_drop (k - f) ((l.take (l.length - 1)).drop f), h1, h2, List.drop_eq_getElem_cons hlen, h3]
theorem refAt_next {l : List UInt8} {pre : List (List UInt8)} {f k : Nat} (h : RefAt l pre f k) (hf : f ≤ k) (hk : k < l.length) (hc : k + 1 < l.length → l[k]? = some 32) (h0 : flagL (segL l f k) ≠ 0) :
    RefAt l (pre ++ [segL l f k]) (k + 1) (k + 1) := by
  obtain ⟨ha, h | h⟩ := h
  · refine ⟨by rw [allF_snoc, ha]; simpa using h0, ?_⟩
    by_cases hl : k + 1 < l.length
    · refine .inl ⟨hl, fun j h1 h2 => by omega, ?_⟩
      rw [List.append_assoc, ← h.2.2, seg_split hf hl (hc hl), splitL_at (seg_no h.2.1)]
      rfl
    · have hk1 : k = l.length - 1 := by omega
      refine .inr ⟨by omega, ?_⟩
      have hs : (l.take (l.length - 1)).drop f = segL l f k := by
        unfold segL
        rw [List.drop_take, hk1]
      rw [← h.2.2, hs, splitL_none (seg_no h.2.1)]
  · omega
theorem refAt_bad {l : List UInt8} {pre : List (List UInt8)} {f k : Nat} (h : RefAt l pre f k) (hf : f ≤ k) (hk : k < l.length) (hc : k + 1 < l.length → l[k]? = some 32) (h0 : flagL (segL l f k) = 0) :
    namesO (splitL 32 (innerL l)) = none := by
  have key : ∃ rest, splitL 32 (innerL l) = pre ++ segL l f k :: rest := by
    obtain ⟨ha, h | h⟩ := h
    · by_cases hl : k + 1 < l.length
      · exact ⟨_, by rw [← h.2.2, seg_split hf hl (hc hl), splitL_at (seg_no h.2.1)]⟩
      · have hs : (l.take (l.length - 1)).drop f = segL l f k := by
          unfold segL
          rw [List.drop_take, show k = l.length - 1 by omega]
        exact ⟨[], by rw [← h.2.2, hs, splitL_none (seg_no h.2.1)]⟩
    · omega
  obtain ⟨rest, e⟩ := key
  unfold namesO
  rw [if_neg]
  rw [e]
  simp [allF, h0]
theorem refAt_end {l : List UInt8} {pre : List (List UInt8)} {f k : Nat} (h : RefAt l pre f k) (hk : l.length ≤ k) : namesO (splitL 32 (innerL l)) = some (orF pre) := by
  obtain ⟨ha, h | h⟩ := h
  · omega
  · unfold namesO
    rw [← h.2, if_pos ha]
end Go.Proofs.YtpoejnajnaolpaaGreatDoor

namespace Go.Proofs.YtpoejnajnaolpaaGreatDoor
open Go.RowKit

/-- Names with a space between each two. -/
def spL (ps : List (List UInt8)) : List UInt8 := Lib.join ps [32]
/-- The list of some flags. -/
def listL (f : Nat) : List UInt8 := 40 :: (spL ((eachL f).map nameF) ++ [41])

theorem spL_nil : spL [] = [] := rfl
theorem spL_one (p : List UInt8) : spL [p] = p := Lib.join_one p _
theorem spL_snoc {ps : List (List UInt8)} (h : ps ≠ []) (p : List UInt8) : spL (ps ++ [p]) = spL ps ++ 32 :: p := by
  cases ps with
  | nil => exact absurd rfl h
  | cons x r =>
    unfold spL
    rw [List.cons_append, Lib.join_cons, Lib.join_cons]
    simp [Lib.joinTail]
theorem spL_cons (p q : List UInt8) (ps : List (List UInt8)) : spL (p :: q :: ps) = p ++ 32 :: spL (q :: ps) := by
  unfold spL
  rw [Lib.join_cons, Lib.join_cons]
  simp [Lib.joinTail]
theorem split_spL : ∀ (ps : List (List UInt8)), ps ≠ [] → (∀ p ∈ ps, (32 : UInt8) ∉ p) → splitL 32 (spL ps) = ps
  | [], h, _ => absurd rfl h
  | [p], _, h => by rw [spL_one]; exact splitL_none (h p (by simp))
  | p :: q :: ps, _, h => by
    rw [spL_cons, splitL_at (h p (by simp)), split_spL (q :: ps) (by simp) (fun x hx => h x (by simp [hx]))]

/-- What stands between brackets is read part by part. -/
theorem parse_list {ps : List (List UInt8)} (h : ps ≠ []) (hs : ∀ p ∈ ps, (32 : UInt8) ∉ p) (h0 : ∃ p ∈ ps, p ≠ []) : parseF (40 :: (spL ps ++ [41])) = namesO ps := by
  have hl : (40 :: (spL ps ++ [41])).length = (spL ps).length + 2 := by simp
  have hne : spL ps ≠ [] := by
    intro e
    have := split_spL ps h hs
    rw [e] at this
    obtain ⟨p, hp, hp0⟩ := h0
    rw [← this] at hp
    simp [splitL] at hp
    exact hp0 hp
  have hi : innerL (40 :: (spL ps ++ [41])) = spL ps := by
    unfold innerL
    rw [hl]
    simp
  unfold parseF
  rw [if_neg, if_pos, hi, split_spL ps h hs]
  · refine ⟨by rw [hl]; omega, rfl, ?_⟩
    rw [hl, show (spL ps).length + 2 - 1 = (spL ps).length + 1 by omega, List.getElem?_cons_succ]
    simp
  · intro e
    injection e with _ e
    cases hx : spL ps with
    | nil => exact hne hx
    | cons a r =>
      rw [hx] at e
      simp at e

theorem name_nosp {f : Nat} (hf : f ∈ ones) : (32 : UInt8) ∉ nameF f := by
  rcases ones_mem.1 hf with rfl | rfl | rfl | rfl | rfl <;> decide
theorem name_ne {f : Nat} (hf : f ∈ ones) : nameF f ≠ [] := by
  rcases ones_mem.1 hf with rfl | rfl | rfl | rfl | rfl <;> decide
theorem name_len (f : Nat) : (nameF f).length ≤ 9 := by
  unfold nameF
  repeat (split; decide)
  decide
theorem flagL_name {f : Nat} (hf : f ∈ ones) : flagL (nameF f) = f := flagU_name hf
theorem eachL_ones {f x : Nat} (h : x ∈ eachL f) : x ∈ ones := (List.mem_filter.1 h).1
/-- The flags of names are the flags. -/
theorem names_flags (xs : List Nat) (h : ∀ x ∈ xs, x ∈ ones) : namesO (xs.map nameF) = some (xs.foldl (fun a x => a ||| x) 0) := by
  have ha : allF (xs.map nameF) = true := by
    unfold allF
    rw [List.all_map, List.all_eq_true]
    intro x hx
    have := h x hx
    show (flagL (nameF x) != 0) = true
    rw [flagL_name this]
    have : x ≠ 0 := by rintro rfl; simp [ones] at this
    simpa using this
  have ho : ∀ (ys : List Nat) (a : Nat), (∀ x ∈ ys, x ∈ ones) → (ys.map nameF).foldl (fun a p => a ||| flagL p) a = ys.foldl (fun a x => a ||| x) a := by
    intro ys
    induction ys with
    | nil => intro a _; rfl
    | cons y ys ih =>
      intro a hy
      show List.foldl _ (a ||| flagL (nameF y)) (ys.map nameF) = List.foldl _ (a ||| y) ys
      rw [flagL_name (hy y (by simp))]
      exact ih _ (fun x hx => hy x (by simp [hx]))
  unfold namesO
  rw [if_pos ha]
  unfold orF
  rw [ho xs 0 h]
theorem each_or : ∀ f : Fin 256, (eachL f.val).foldl (fun a x => a ||| x) 0 = f.val &&& 31 := by decide +kernel
theorem each_nil : ∀ f : Fin 256, eachL f.val = [] ↔ f.val &&& 31 = 0 := by decide +kernel
/-- What is printed is read again. -/
theorem parse_printed (f : Nat) (hf : f < 256) : parseF (listL f) = some (f &&& 31) := by
  by_cases h : eachL f = []
  · have h0 := (each_nil ⟨f, hf⟩).1 h
    unfold listL
    rw [h]
    rw [show f &&& 31 = 0 from h0]
    decide
  · unfold listL
    rw [parse_list (by simpa using h) (fun p hp => by
      obtain ⟨x, hx, rfl⟩ := List.mem_map.1 hp
      exact name_nosp (eachL_ones hx)), names_flags _ (fun x hx => eachL_ones hx)]
    · rw [show (eachL f).foldl (fun a x => a ||| x) 0 = f &&& 31 from each_or ⟨f, hf⟩]
    · obtain ⟨x, hx⟩ := List.exists_mem_of_ne_nil _ h
      exact ⟨nameF x, List.mem_map.2 ⟨x, hx, rfl⟩, name_ne (eachL_ones hx)⟩
end Go.Proofs.YtpoejnajnaolpaaGreatDoor

namespace Go.Proofs.YtpoejnajnaolpaaGreatDoor
open Go.RowKit

section
variable {α : Type} {enc : α → List Value} {k : Nat} {w w' : World} {A : Option Addr} {l : List α}

/-- The slice of address A holds the list l (its length is the list's). -/
def SlAt (enc : α → List Value) (k : Nat) (w : World) (A : Option Addr) (l : List α) : Prop :=
  l = [] ∨ ∃ b off, A = some ⟨b, off, none⟩ ∧ b < w.heap.size ∧ ∀ j x, l[j]? = some x → ∀ i v, (enc x)[i]? = some v → w.cell? ⟨b, off + j * k + i, none⟩ = some v

theorem SlAt.nil : SlAt enc k w A [] := .inl rfl
theorem SlAt.below (h : SlAt enc k w A l) (hb : Below w.heap.size w w') : SlAt enc k w' A l := by
  rcases h with h | ⟨b, off, hA, hlt, hc⟩
  · exact .inl h
  · exact .inr ⟨b, off, hA, Nat.lt_of_lt_of_le hlt hb.size, fun j x hj i v hi => (hb.cell (p := ⟨b, off + j * k + i, none⟩) hlt).trans (hc j x hj i v hi)⟩
/-- At an index within it: the address is plain, and the element's cells lie there. -/
theorem SlAt.at_ (h : SlAt enc k w A l) {j : Nat} (hj : j < l.length) :
    ∃ b off, A = some ⟨b, off, none⟩ ∧ b < w.heap.size ∧ ∀ i v, (enc l[j])[i]? = some v → w.cell? ⟨b, off + j * k + i, none⟩ = some v := by
  rcases h with rfl | ⟨b, off, hA, hlt, hc⟩
  · simp at hj
  · exact ⟨b, off, hA, hlt, hc j _ (List.getElem?_eq_getElem hj)⟩

/-- The flattened cells. -/
def flatL (enc : α → List Value) (l : List α) : List Value := l.flatMap enc
theorem flatL_nil : flatL enc [] = [] := rfl
theorem flatL_append (a b : List α) : flatL enc (a ++ b) = flatL enc a ++ flatL enc b := by simp [flatL]
theorem flatL_length (hk : ∀ x, (enc x).length = k) (l : List α) : (flatL enc l).length = l.length * k := by
  induction l with
  | nil => simp [flatL]
  | cons x l ih =>
    have : flatL enc (x :: l) = enc x ++ flatL enc l := rfl
    rw [this, List.length_append, ih, hk, List.length_cons, Nat.add_mul, Nat.one_mul, Nat.add_comm]
theorem flatL_at (hk : ∀ x, (enc x).length = k) (l : List α) (j : Nat) (x : α) (hj : l[j]? = some x) (i : Nat) (v : Value) (hi : (enc x)[i]? = some v) : (flatL enc l)[j * k + i]? = some v := by
  induction l generalizing j with
  | nil => simp at hj
  | cons y l ih =>
    have e : flatL enc (y :: l) = enc y ++ flatL enc l := rfl
    have hik : i < k := by rw [← hk x]; exact (List.getElem?_eq_some_iff.1 hi).1
    rw [e]
    cases j with
    | zero =>
      obtain rfl : y = x := by simpa using hj
      rw [List.getElem?_append_left (by rw [hk]; omega)]
      simpa using hi
    | succ j =>
      have hj' : l[j]? = some x := by simpa using hj
      rw [List.getElem?_append_right (by rw [hk, Nat.add_mul]; omega), hk]
      have e2 : (j + 1) * k + i - k = j * k + i := by rw [Nat.add_mul]; omega
      rw [e2]
      exact ih j hj'

/-- A slice that the call made itself reads as its list. -/
theorem SlAt.of_own {base : Nat} {e : TypeId} {n c : Nat} (hk : ∀ x, (enc x).length = k) (h : w.ownsRow base e k (.slice A n c) l.length (flatL enc l)) : SlAt enc k w A l := by
  rcases h.2 with ⟨h1, h2⟩ | ⟨g, cap, cur, h1, hg, hh, _⟩
  · exact .inl (List.eq_nil_of_length_eq_zero h2)
  · injection h1 with h1 h2 h3
    subst h1
    refine .inr ⟨g, 0, rfl, ?_, fun j x hj i v hi => ?_⟩
    · rcases Nat.lt_or_ge g w.heap.size with hlt | hge
      · exact hlt
      · rw [Array.getElem?_eq_none hge] at hh; cases hh
    · have := h.cells (g := g) rfl (j * k + i) v (flatL_at hk l j x hj i v hi)
      rw [Addr.add_lit] at this
      simpa using this
end
theorem below_drew {w : World} (n : Nat) : Below w.heap.size w (w.drewN n) := ⟨rfl, rfl, rfl, Nat.le_refl _, fun _ _ => rfl⟩
end Go.Proofs.YtpoejnajnaolpaaGreatDoor

namespace Go.Proofs.YtpoejnajnaolpaaGreatDoor
open Go.RowKit

section
variable {α : Type} {enc : α → List Value} {size : Nat}

theorem flatL_find (hk : ∀ x, (enc x).length = size) (l : List α) (j : Nat) (u : Value) (h : (flatL enc l)[j]? = some u) : ∃ q r x, j = q * size + r ∧ l[q]? = some x ∧ (enc x)[r]? = some u := by
  induction l generalizing j with
  | nil => simp [flatL] at h
  | cons y l ih =>
    have e : flatL enc (y :: l) = enc y ++ flatL enc l := rfl
    rw [e] at h
    by_cases hj : j < (enc y).length
    · rw [List.getElem?_append_left hj] at h
      exact ⟨0, j, y, by omega, rfl, h⟩
    · rw [List.getElem?_append_right (by omega)] at h
      obtain ⟨q, r, x, h1, h2, h3⟩ := ih _ h
      refine ⟨q + 1, r, x, ?_, by simpa using h2, h3⟩
      rw [hk] at h1 hj
      rw [Nat.add_mul]
      omega

variable {P : Program} (w : World)

theorem append_none (base : Nat) (t ty e : TypeId) (i : TypeInfo) (ht : P.underlying t = some (.slice e)) (hi : P.info? e = some i)
    (v : Value) (n : Nat) (xs : List Value) (hown : w.ownsRow base e size v n xs) (c : Nat) : (Builtin.append_ #[t, t] ty #[v, .slice none 0 c]).run P w = .ok v w := by
  rcases hown.2 with ⟨rfl, rfl⟩ | ⟨g, cap, cur, rfl, _, _, hnc, _⟩
  · simp [Builtin.append_, run_underlying ht, sizeOf, typeInfo, hi, Builtin.lenOf, Builtin.firstCells]
  · simp [Builtin.append_, run_underlying ht, sizeOf, typeInfo, hi, Builtin.lenOf, Builtin.firstCells, hnc, storeCells]

theorem append_sl (base : Nat) (t ty e : TypeId) (i : TypeInfo) (z : Value) (bytes : Nat) (ht : P.underlying t = some (.slice e)) (hi : P.info? e = some i) (hz : i.zero = some z)
    (hsize : i.size = size) (hby : i.bytes = bytes) (hzs : z.cells.size = size) (hsz : 0 < size)
    (v : Value) (n : Nat) (xs : List Value) (hown : w.ownsRow base e size v n xs)
    (A : Option Addr) (l : List α) (c : Nat) (hk : ∀ x, (enc x).length = size) (hS : SlAt enc size w A l) (h1 : ∀ u ∈ flatL enc l, u.oneCell' = true)
    (h63 : n + l.length ≤ maxLen) (hbytes : (n + l.length) * bytes ≤ 140737488355328) (hbase : base ≤ w.heap.size) :
    ∃ v' w', (Builtin.append_ #[t, t] ty #[v, .slice A l.length c]).run P w = .ok v' w' ∧ w'.ownsRow base e size v' (n + l.length) (xs ++ flatL enc l) ∧ w.grownBy w' v.ownBlock := by
  rcases A with _ | ad
  · rcases hS with rfl | ⟨b, off, hA, _⟩
    · exact ⟨v, w, append_none w base t ty e i ht hi v n xs hown c, by simpa [flatL] using hown, World.grownBy.refl w _⟩
    · cases hA
  · have hcells : ∀ j u, (flatL enc l)[j]? = some u → w.cell? (ad.add j) = some u := by
      intro j u hu
      rcases hS with rfl | ⟨b, off, hA, _, hc⟩
      · simp [flatL] at hu
      · injection hA with hA
        subst hA
        obtain ⟨q, r, x, rfl, h2, h3⟩ := flatL_find hk l j u hu
        have := hc q x h2 r u h3
        rw [Addr.add_lit, ← Nat.add_assoc]
        exact this
    obtain ⟨v', w', hrun, h2, h3, _⟩ := run_append_own_at (P := P) w base t ty e i z size bytes ht hi hz hsize hby hzs hsz v n xs hown ad l.length c (flatL enc l) (flatL_length hk l) hcells h1 h63 hbytes hbase
    exact ⟨v', w', hrun, h2, h3⟩

theorem wpList_append_sl {ops : Array Oper} {rest : List Oper} {o : Oper} {a : Act} {Q : Exit → Act → World → Prop} (hgd : o.guard = none) (s x : Operand) (t : TypeId)
    (ho : o.op = .call { callee := .builtin .append, args := #[s, x], argTypes := #[t, t] })
    (base : Nat) (e : TypeId) (i : TypeInfo) (z : Value) (bytes : Nat) (ht : P.underlying t = some (.slice e)) (hi : P.info? e = some i) (hz : i.zero = some z)
    (hsize : i.size = size) (hby : i.bytes = bytes) (hzs : z.cells.size = size) (hsz : 0 < size)
    (v : Value) (n : Nat) (xs : List Value) (hs : a.eval s = v) (hown : w.ownsRow base e size v n xs)
    (A : Option Addr) (l : List α) (c : Nat) (hx : a.eval x = .slice A l.length c) (hk : ∀ x, (enc x).length = size) (hS : SlAt enc size w A l) (h1 : ∀ u ∈ flatL enc l, u.oneCell' = true)
    (h63 : n + l.length ≤ maxLen) (hbytes : (n + l.length) * bytes ≤ 140737488355328) (hbase : base ≤ w.heap.size)
    (h : ∀ v' w', w'.ownsRow base e size v' (n + l.length) (xs ++ flatL enc l) → w.grownBy w' v.ownBlock → wpList P ops Q rest (a.put o.dst v') w') : wpList P ops Q (o :: rest) a w := by
  obtain ⟨v', w', hrun, h2, h3⟩ := append_sl (P := P) w base t o.type e i z bytes ht hi hz hsize hby hzs hsz v n xs hown A l c hk hS h1 h63 hbytes hbase
  refine wpList_plain hgd fun K hK => ?_
  unfold Oper.wp execOp
  simp only [ho, resolve, invoke, builtin, Sem.run_bind, Sem.run_pure, Result.andThen_ok, List.map_toArray, List.map_cons, List.map_nil, hs, hx, hrun]
  exact hK _ _ (h v' w' h2 h3)

/-- The same, at a step of a region that draws its order. -/
theorem step_append_sl {ops : Array Oper} {o : Oper} {a : Act} {K : Act → World → Prop} {Q : Exit → Act → World → Prop} {E : Prop} (hgd : o.guard = none) (s x : Operand) (t : TypeId)
    (ho : o.op = .call { callee := .builtin .append, args := #[s, x], argTypes := #[t, t] })
    (base : Nat) (e : TypeId) (i : TypeInfo) (z : Value) (bytes : Nat) (ht : P.underlying t = some (.slice e)) (hi : P.info? e = some i) (hz : i.zero = some z)
    (hsize : i.size = size) (hby : i.bytes = bytes) (hzs : z.cells.size = size) (hsz : 0 < size)
    (v : Value) (n : Nat) (xs : List Value) (hs : a.eval s = v) (hown : w.ownsRow base e size v n xs)
    (A : Option Addr) (l : List α) (c : Nat) (hx : a.eval x = .slice A l.length c) (hk : ∀ x, (enc x).length = size) (hS : SlAt enc size w A l) (h1 : ∀ u ∈ flatL enc l, u.oneCell' = true)
    (h63 : n + l.length ≤ maxLen) (hbytes : (n + l.length) * bytes ≤ 140737488355328) (hbase : base ≤ w.heap.size)
    (h : ∀ v' w', w'.ownsRow base e size v' (n + l.length) (xs ++ flatL enc l) → w.grownBy w' v.ownBlock → K (a.put o.dst v') w') :
    if Region.wanted o (yielded ops a.tmps) = true then Oper.wp P o a w K Q else E := by
  have hw : Region.wanted o (yielded ops a.tmps) = true := by simp [Region.wanted, hgd]
  rw [if_pos hw]
  obtain ⟨v', w', hrun, h2, h3⟩ := append_sl (P := P) w base t o.type e i z bytes ht hi hz hsize hby hzs hsz v n xs hown A l c hk hS h1 h63 hbytes hbase
  unfold Oper.wp execOp
  simp only [ho, resolve, invoke, builtin, Sem.run_bind, Sem.run_pure, Result.andThen_ok, List.map_toArray, List.map_cons, List.map_nil, hs, hx, hrun]
  exact h v' w' h2 h3
/-- .. its length as the walk has it. -/
theorem step_append_slm {ops : Array Oper} {o : Oper} {a : Act} {K : Act → World → Prop} {Q : Exit → Act → World → Prop} {E : Prop} (hgd : o.guard = none) (s x : Operand) (t : TypeId)
    (ho : o.op = .call { callee := .builtin .append, args := #[s, x], argTypes := #[t, t] })
    (base : Nat) (e : TypeId) (i : TypeInfo) (z : Value) (bytes : Nat) (ht : P.underlying t = some (.slice e)) (hi : P.info? e = some i) (hz : i.zero = some z)
    (hsize : i.size = size) (hby : i.bytes = bytes) (hzs : z.cells.size = size) (hsz : 0 < size)
    (v : Value) (n : Nat) (xs : List Value) (hs : a.eval s = v) (hown : w.ownsRow base e size v n xs)
    (A : Option Addr) (l : List α) (m c : Nat) (hx : a.eval x = .slice A m c) (hm : l.length = m) (hk : ∀ x, (enc x).length = size) (hS : SlAt enc size w A l) (h1 : ∀ u ∈ flatL enc l, u.oneCell' = true)
    (h63 : n + l.length ≤ maxLen) (hbytes : (n + l.length) * bytes ≤ 140737488355328) (hbase : base ≤ w.heap.size)
    (h : ∀ v' w', w'.ownsRow base e size v' (n + l.length) (xs ++ flatL enc l) → w.grownBy w' v.ownBlock → K (a.put o.dst v') w') :
    if Region.wanted o (yielded ops a.tmps) = true then Oper.wp P o a w K Q else E := by
  subst hm
  have hw : Region.wanted o (yielded ops a.tmps) = true := by simp [Region.wanted, hgd]
  rw [if_pos hw]
  obtain ⟨v', w', hrun, h2, h3⟩ := append_sl (P := P) w base t o.type e i z bytes ht hi hz hsize hby hzs hsz v n xs hown A l c hk hS h1 h63 hbytes hbase
  unfold Oper.wp execOp
  simp only [ho, resolve, invoke, builtin, Sem.run_bind, Sem.run_pure, Result.andThen_ok, List.map_toArray, List.map_cons, List.map_nil, hs, hx, hrun]
  exact h v' w' h2 h3

theorem own_empty {W : World} {base b0 : Nat} {T : TypeId} {sz : Nat} (h : W.heap[b0]? = some (.cells #[] T)) (hb : base ≤ b0) : W.ownsRow base T sz (.slice (some ⟨b0, 0, none⟩) 0 0) 0 [] :=
  ⟨by simp, .inr ⟨b0, 0, #[], rfl, hb, h, Nat.le_refl _, Nat.zero_le _, by simp, by simp⟩⟩
end
end Go.Proofs.YtpoejnajnaolpaaGreatDoor

namespace Go.Proofs.YtpoejnajnaolpaaGreatDoor
open Go.RowKit

/-- Blocks of element type T lie as they lay. -/
def KeepsT (T : TypeId) (A B : World) : Prop := A.heap.size ≤ B.heap.size ∧ ∀ (i : Nat) (cs : Array Value) (fr : Nat × Nat), A.heap[i]? = some (Obj.cells cs T fr) → B.heap[i]? = some (Obj.cells cs T fr)
theorem KeepsT.refl (T : TypeId) (A : World) : KeepsT T A A := ⟨Nat.le_refl _, fun _ _ _ h => h⟩
theorem keepsT_t {T : TypeId} {A B C : World} (h : KeepsT T A B) (k : KeepsT T B C) : KeepsT T A C := ⟨Nat.le_trans h.1 k.1, fun i cs fr hi => k.2 i cs fr (h.2 i cs fr hi)⟩
theorem KeepsT.grown {T : TypeId} {A B : World} {row : Option Nat} (hg : A.grownBy B row) (hr : ∀ r, row = some r → ∀ (cs : Array Value) (fr : Nat × Nat), A.heap[r]? ≠ some (Obj.cells cs T fr)) : KeepsT T A B :=
  ⟨hg.size, fun i cs fr hi => by
    rw [hg.block i (Array.getElem?_eq_some_iff.1 hi).1 (fun e => hr i e.symm cs fr hi)]
    exact hi⟩
theorem KeepsT.alloc {T : TypeId} {A B : World} (h : KeepsT T A B) (o : Obj) : KeepsT T A (B.alloc o) :=
  ⟨Nat.le_trans h.1 (by simp), fun i cs fr hi => by
    have := h.2 i cs fr hi
    exact (Below.heap_alloc B o i (Array.getElem?_eq_some_iff.1 this).1).trans this⟩
theorem KeepsT.own {T : TypeId} {A B : World} (h : KeepsT T A B) {base size n : Nat} {v : Value} {xs : List Value} (ho : A.ownsRow base T size v n xs) : B.ownsRow base T size v n xs := by
  refine ⟨ho.1, ?_⟩
  rcases ho.2 with h1 | ⟨g, cap, cur, h1, h2, h3, h4⟩
  · exact .inl h1
  · exact .inr ⟨g, cap, cur, h1, h2, h.2 _ _ _ h3, h4⟩
theorem KeepsT.box {T : TypeId} {A B : World} (h : KeepsT T A B) {i : Nat} {cs : Array Value} (hi : A.heap[i]? = some (Obj.cells cs T (0, 0))) : B.heap[i]? = some (Obj.cells cs T (0, 0)) := h.2 _ _ _ hi
theorem box_cell {A : World} {T : TypeId} {i : Nat} {cs : Array Value} (hi : A.heap[i]? = some (Obj.cells cs T (0, 0))) (j : Nat) (v : Value) (hj : cs[j]? = some v) : A.cell? ⟨i, j, none⟩ = some v := by
  rw [cell_of_row A i j cs T (0, 0) hi]; exact hj

theorem grown_setCell (W : World) (b o : Nat) (v : Value) : W.grownBy (W.setCell ⟨b, o, none⟩ v) (some b) :=
  ⟨rfl, rfl, rfl, by simp [World.setCell], fun k _ hk => Below.heap_setCell _ _ _ k (fun e => hk (by rw [e]))⟩
theorem KeepsT.setAt {T T' : TypeId} {A B : World} {b : Nat} {cs : Array Value} {fr : Nat × Nat} (h : KeepsT T A B) (hb : B.heap[b]? = some (Obj.cells cs T' fr)) (hT : T' ≠ T) (o : Nat) (v : Value) : KeepsT T A (B.setCell ⟨b, o, none⟩ v) :=
  keepsT_t h (KeepsT.grown (grown_setCell B b o v) (fun r e _ _ hc => by
    cases e
    have := hb.symm.trans hc
    simp at this
    exact hT this.2.1))
theorem KeepsT.set_ {T T' : TypeId} {A B : World} {b : Nat} {u : Value} (h : KeepsT T A B) (hb : Boxed B b T' u) (hT : T' ≠ T) (v : Value) : KeepsT T A (B.setCell ⟨b, 0, none⟩ v) :=
  h.setAt (show B.heap[b]? = _ from hb) hT 0 v
theorem KeepsT.below {T : TypeId} {A B C : World} (h : KeepsT T A B) (hb : Below B.heap.size B C) : KeepsT T A C :=
  keepsT_t h ⟨hb.size, fun i _ _ hi => (hb.block i (Array.getElem?_eq_some_iff.1 hi).1).trans hi⟩
theorem KeepsT.own_app {T e : TypeId} {W w1 : World} {base size n : Nat} {v : Value} {xs : List Value} (hrow : W.ownsRow base e size v n xs) (hT : e ≠ T) (hg : W.grownBy w1 v.ownBlock) : KeepsT T W w1 :=
  KeepsT.grown hg (fun r er _ _ hc => by
    rcases hrow.2 with ⟨rfl, _⟩ | ⟨g, cap, cur, rfl, _, hgb, _⟩
    · simp [Value.ownBlock] at er
    · obtain rfl : g = r := by simpa [Value.ownBlock] using er
      have := hgb.symm.trans hc
      simp at this
      exact hT this.2.1)
theorem KeepsT.app {T e : TypeId} {W w1 : World} {base size n : Nat} {v : Value} {xs : List Value} {tmp : Obj} (hrow : W.ownsRow base e size v n xs) (hT : e ≠ T) (hg : (W.alloc tmp).grownBy w1 v.ownBlock) : KeepsT T W w1 :=
  keepsT_t ((KeepsT.refl T W).alloc tmp) (KeepsT.grown hg (fun r er _ _ hc => by
    rcases (hrow.alloc tmp).2 with ⟨rfl, _⟩ | ⟨g, cap, cur, rfl, _, hgb, _⟩
    · simp [Value.ownBlock] at er
    · obtain rfl : g = r := by simpa [Value.ownBlock] using er
      have := hgb.symm.trans hc
      simp at this
      exact hT this.2.1))
theorem own_below {w w' : World} {base : Nat} {e : TypeId} {size n : Nat} {v : Value} {xs : List Value} (h : w.ownsRow base e size v n xs) (hb : Below w.heap.size w w') : w'.ownsRow base e size v n xs := by
  refine ⟨h.1, ?_⟩
  rcases h.2 with h1 | ⟨g, cap, cur, h1, h2, h3, h4⟩
  · exact .inl h1
  · exact .inr ⟨g, cap, cur, h1, h2, (hb.block g (Array.getElem?_eq_some_iff.1 h3).1).trans h3, h4⟩
theorem own_any {w : World} {base : Nat} {e : TypeId} {size n : Nat} {v : Value} {xs : List Value} (h : w.ownsRow base e size v n xs) : ∃ A c, v = .slice A n c := by
  rcases h.2 with ⟨rfl, rfl⟩ | ⟨g, cap, cur, rfl, _⟩
  · exact ⟨_, _, rfl⟩
  · exact ⟨_, _, rfl⟩
theorem grown_of_below {w w' : World} {row : Option Nat} (h : Below w.heap.size w w') : w.grownBy w' row := ⟨h.os, h.tape, h.output, h.size, fun k hk _ => h.block k hk⟩
theorem grown_set {w w' : World} {b : Nat} (h : w.grownBy w' (some b)) (i : Nat) (v : Value) : w.grownBy (w'.setCell ⟨b, i, none⟩ v) (some b) := h.trans (grown_setCell w' b i v)
end Go.Proofs.YtpoejnajnaolpaaGreatDoor

namespace Go.Proofs.YtpoejnajnaolpaaGreatDoor
open Go.RowKit

/-- A byte's cell. -/
def encB (c : UInt8) : List Value := [.int .u8 (c.toNat : Int)]
theorem encB_len (c : UInt8) : (encB c).length = 1 := rfl
theorem flatB (l : List UInt8) : flatL encB l = l.map fun c => Value.int .u8 (c.toNat : Int) := by
  induction l with
  | nil => rfl
  | cons n l ih =>
    have : flatL encB (n :: l) = encB n ++ flatL encB l := rfl
    rw [this, ih]
    rfl
theorem one_flatB (l : List UInt8) : ∀ u ∈ flatL encB l, u.oneCell' = true := by
  intro u hu
  rw [flatB] at hu
  obtain ⟨r, _, rfl⟩ := List.mem_map.1 hu
  rfl

/-- The slice of address A and capacity c reads as l; its array lies below block B. -/
structure ByAt (B : Nat) (w : World) (A : Option Addr) (c : Nat) (l : List UInt8) : Prop where
  le : l.length ≤ c
  lies : l = [] ∨ ∃ b off, A = some ⟨b, off, none⟩ ∧ b < B ∧ b < w.heap.size ∧ ∀ j (h : j < l.length), w.cell? ⟨b, off + j, none⟩ = some (.int .u8 (l[j].toNat : Int))

section
variable {B B' : Nat} {w w' : World} {A : Option Addr} {c : Nat} {l : List UInt8}

theorem ByAt.nil (B : Nat) (w : World) (A : Option Addr) (c : Nat) : ByAt B w A c [] := ⟨Nat.zero_le _, .inl rfl⟩
theorem ByAt.mono (h : ByAt B w A c l) (hB : B ≤ B') : ByAt B' w A c l := by
  refine ⟨h.le, ?_⟩
  rcases h.lies with h0 | ⟨b, off, hA, hb, hw, hc⟩
  · exact .inl h0
  · exact .inr ⟨b, off, hA, by omega, hw, hc⟩
theorem ByAt.below (h : ByAt B w A c l) (hb : Below B w w') : ByAt B w' A c l := by
  refine ⟨h.le, ?_⟩
  rcases h.lies with h0 | ⟨b, off, hA, hlt, hw, hc⟩
  · exact .inl h0
  · exact .inr ⟨b, off, hA, hlt, Nat.lt_of_lt_of_le hw hb.size, fun j hj => (hb.cell (p := ⟨b, off + j, none⟩) hlt).trans (hc j hj)⟩
/-- What lay in the heap lies there still behind a call that only makes memory. -/
theorem ByAt.grow (h : ByAt B w A c l) (hb : Below w.heap.size w w') : ByAt B w' A c l := by
  refine ⟨h.le, ?_⟩
  rcases h.lies with h0 | ⟨b, off, hA, hlt, hw, hc⟩
  · exact .inl h0
  · exact .inr ⟨b, off, hA, hlt, Nat.lt_of_lt_of_le hw hb.size, fun j hj => (hb.cell (p := ⟨b, off + j, none⟩) hw).trans (hc j hj)⟩
theorem ByAt.here (h : ByAt B w A c l) : ByAt w.heap.size w A c l := by
  refine ⟨h.le, ?_⟩
  rcases h.lies with h0 | ⟨b, off, hA, hlt, hw, hc⟩
  · exact .inl h0
  · exact .inr ⟨b, off, hA, hw, hw, hc⟩
theorem ByAt.cell (h : ByAt B w A c l) {j : Nat} (hj : j < l.length) : ∃ b off, A = some ⟨b, off, none⟩ ∧ b < B ∧ b < w.heap.size ∧ w.cell? ⟨b, off + j, none⟩ = some (.int .u8 (l[j].toNat : Int)) := by
  rcases h.lies with rfl | ⟨b, off, hA, hb, hw, hc⟩
  · simp at hj
  · exact ⟨b, off, hA, hb, hw, hc j hj⟩
theorem ByAt.sl (h : ByAt B w A c l) : SlAt encB 1 w A l := by
  rcases h.lies with h0 | ⟨b, off, hA, hb, hw, hc⟩
  · exact .inl h0
  · refine .inr ⟨b, off, hA, hw, fun j x hj i v hi => ?_⟩
    obtain ⟨hlt, rfl⟩ := List.getElem?_eq_some_iff.1 hj
    have hi0 : i = 0 := by
      have := (List.getElem?_eq_some_iff.1 hi).1
      simp [encB] at this
      exact this
    subst hi0
    obtain rfl : v = .int .u8 (l[j].toNat : Int) := by simpa [encB] using hi.symm
    have := hc j hlt
    simpa using this
theorem ByAt.of_sl (h : SlAt encB 1 w A l) (hle : l.length ≤ c) : ByAt w.heap.size w A c l := by
  refine ⟨hle, ?_⟩
  rcases h with h0 | ⟨b, off, hA, hb, hc⟩
  · exact .inl h0
  · refine .inr ⟨b, off, hA, hb, hb, fun j hj => ?_⟩
    have := hc j _ (List.getElem?_eq_getElem hj) 0 _ rfl
    simpa using this
/-- A row of the call's own reads. -/
theorem ByAt.of_own {base e n : Nat} (h : w.ownsRow base e 1 (.slice A n c) l.length (flatL encB l)) : ByAt w.heap.size w A c l := by
  refine ByAt.of_sl (SlAt.of_own encB_len h) ?_
  rcases h.2 with ⟨_, h0⟩ | ⟨g, cap, cur, h1, _, _, hn, _⟩
  · omega
  · injection h1 with _ _ h3
    omega

/-- The address of a cut. -/
def offA (A : Option Addr) (c lo : Nat) : Option Addr := if c = lo then A else A.map (·.add (lo * 1))
theorem ByAt.cut (h : ByAt B w A c l) {lo hi : Nat} (h1 : lo ≤ hi) (h2 : hi ≤ l.length) : ByAt B w (offA A c lo) (c - lo) ((l.take hi).drop lo) := by
  have hlen : ((l.take hi).drop lo).length = hi - lo := by simp; omega
  have hle := h.le
  refine ⟨by rw [hlen]; omega, ?_⟩
  rcases h.lies with rfl | ⟨b, off, rfl, hb, hw, hc⟩
  · exact .inl (by simp)
  · by_cases h0 : lo = hi
    · exact .inl (List.eq_nil_of_length_eq_zero (by rw [hlen]; omega))
    · refine .inr ⟨b, off + lo, ?_, hb, hw, fun j hj => ?_⟩
      · unfold offA
        rw [if_neg (by omega)]
        simp [Addr.add]
      · rw [hlen] at hj
        rw [Nat.add_assoc, hc (lo + j) (by omega)]
        simp
theorem cut_len {lo hi : Nat} (h2 : hi ≤ l.length) : ((l.take hi).drop lo).length = hi - lo := by simp; omega
theorem ByAt.drop (h : ByAt B w A c l) {lo : Nat} (h1 : lo ≤ l.length) : ByAt B w (offA A c lo) (c - lo) (l.drop lo) := by
  have := h.cut h1 (Nat.le_refl _)
  rwa [List.take_length] at this
theorem ByAt.take (h : ByAt B w A c l) {hi : Nat} (h1 : hi ≤ l.length) : ByAt B w A c (l.take hi) := by
  refine ⟨by have := h.le; simp; omega, ?_⟩
  rcases h.lies with rfl | ⟨b, off, rfl, hb, hw, hc⟩
  · exact .inl (by simp)
  · refine .inr ⟨b, off, rfl, hb, hw, fun j hj => ?_⟩
    rw [List.length_take] at hj
    rw [hc j (by omega)]
    simp
end

theorem sizeB (w : World) : (sizeOf (Tryz.prog.elem 22)).run Tryz.prog w = .ok 1 w := by kernel_rfl
theorem undB : Tryz.prog.underlying 22 = some (.slice (Tryz.prog.elem 22)) := by kernel_rfl

/-- The cut [lo:hi], [lo:], [:hi]. -/
theorem slice_lh (A : Option Addr) (n c lo hi : Nat) (h1 : lo ≤ hi) (h2 : hi ≤ c) (W : World) :
    (Instr.slice 22 (.slice A n c) (some (.int .i64 (lo : Int))) (some (.int .i64 (hi : Int))) none).run Tryz.prog W = .ok (.slice (offA A c lo) (hi - lo) (c - lo)) W := by
  rw [run_slice_lh W _ A n c undB .i64 .i64 lo hi (by omega) (by omega) (by omega), sizeB]
  rfl
theorem slice_l (A : Option Addr) (n c lo : Nat) (h1 : lo ≤ n) (W : World) :
    (Instr.slice 22 (.slice A n c) (some (.int .i64 (lo : Int))) none none).run Tryz.prog W = .ok (.slice (offA A c lo) (n - lo) (c - lo)) W := by
  rw [run_slice_l W _ A n c undB .i64 lo (by omega) (by omega), sizeB]
  rfl
theorem slice_h (A : Option Addr) (n c hi : Nat) (h1 : hi ≤ c) (W : World) :
    (Instr.slice 22 (.slice A n c) none (some (.int .i64 (hi : Int))) none).run Tryz.prog W = .ok (.slice A hi c) W := by
  rw [run_slice_h W _ A n c undB .i64 hi (by omega) (by omega), sizeB]
  have e : (if c = 0 then A else A.map (·.add (0 * 1))) = A := by
    split
    · rfl
    · rcases A with _ | ⟨b, o, s⟩ <;> simp [Addr.add]
  simp only [Result.andThen, sliced, e, Int.toNat_natCast, Nat.sub_zero]
theorem sliceAt_eq (x : Value) (lo hi mx : Option Value) (W : World) : (Instr.sliceAt 22 x lo hi mx).run Tryz.prog W = (Instr.slice 22 x lo hi mx).run Tryz.prog W := run_sliceAt_slice W _ _ _ _ _ undB

/-- The string of a slice of bytes. -/
theorem convS (B : Nat) (w : World) (A : Option Addr) (c n : Nat) (l : List UInt8) (h : ByAt B w A c l) (hn : l.length = n) :
    (convert 22 9 (.slice A n c)).run Tryz.prog w = .ok (.string ⟨l.toArray⟩) w := by
  subst hn
  rcases h.lies with rfl | ⟨b, off, rfl, _, _, hc⟩
  · exact run_convert_bytes_zero w 22 5 Tryz.underlying22 Tryz.underlying5 A c 9 Tryz.underlying9
  · exact run_convert_bytes_back w 22 9 5 ⟨b, off, none⟩ c l Tryz.underlying22 Tryz.underlying5 Tryz.underlying9 (fun j hj => by rw [Addr.add_lit]; exact hc j hj)

theorem heap_alloc_new (w : World) (o : Obj) : (w.alloc o).heap[w.heap.size]? = some o := by
  show (w.heap.push o)[w.heap.size]? = _
  simp
theorem bytesRow_reads (s : ByteArray) (cap : Nat) (w : World) (g : Nat) (fr : Nat × Nat) (h : w.heap[g]? = some (.cells (bytesRow s cap) 5 fr)) (hc : s.size ≤ cap) : ByAt w.heap.size w (some ⟨g, 0, none⟩) cap s.data.toList := by
  have hg := (Array.getElem?_eq_some_iff.1 h).1
  refine ⟨by rw [Array.length_toList]; exact hc, .inr ⟨g, 0, rfl, hg, hg, fun j hj => ?_⟩⟩
  rw [Array.length_toList] at hj
  rw [Nat.zero_add, cell_of_row w g j _ _ _ h, bytesRow_at s cap j hj]
  simp
/-- '[]byte(s)': a new row that reads as the string's bytes. -/
theorem convB (w : World) (s : ByteArray) (m : Nat) (hm : s.size = m) : ∃ cap w', (convert 9 22 (.string s)).run Tryz.prog w = .ok (.slice (some ⟨w.heap.size, 0, none⟩) m cap) w' ∧ Below w.heap.size w w' ∧ ByAt w'.heap.size w' (some ⟨w.heap.size, 0, none⟩) cap s.data.toList ∧ m ≤ cap ∧ w'.heap.size = w.heap.size + 1 ∧
    w'.heap[w.heap.size]? = some (.cells (bytesRow s cap) 5 ((bytesRow s cap).size, (bytesRow s cap).size + 1)) := by
  subst hm
  have hr := run_bytes_of_string (P := Tryz.prog) w 9 22 5 s Tryz.underlying9 Tryz.underlying22 Tryz.underlying5
  have hc := grownCap_ge w s.size 0 5
  generalize grownCap w s.size 0 5 = cap at hr hc
  have hn := heap_alloc_new w.drew (.cells (bytesRow s cap) 5 ((bytesRow s cap).size, (bytesRow s cap).size + 1))
  exact ⟨cap, _, hr, (Below.refl w.heap.size w).drew.alloc (Nat.le_refl _) _, bytesRow_reads s cap _ _ _ hn hc, hc, World.size_alloc _ _, hn⟩
theorem below_al (w : World) (o : Obj) : Below w.heap.size w (w.alloc o) := (Below.refl _ _).alloc (Nat.le_refl _) _
end Go.Proofs.YtpoejnajnaolpaaGreatDoor

namespace Go.Proofs.YtpoejnajnaolpaaGreatDoor
open Go.RowKit

theorem belDraw {B : Nat} {a x : World} (h : Below B a x) : Below B a x.drew := h.trans (Below.refl B x).drew
theorem belDrawN {B : Nat} {a x : World} (h : Below B a x) (n : Nat) : Below B a (x.drewN n) := h.trans ⟨rfl, rfl, rfl, Nat.le_refl _, fun _ _ => rfl⟩
theorem belAlloc {a x : World} (h : Below a.heap.size a x) (o : Obj) : Below a.heap.size a (x.alloc o) := below_next h (below_al x o)
theorem belSet {a x : World} {b i : Nat} (h : Below a.heap.size a x) (hb : a.heap.size ≤ b) (v : Value) : Below a.heap.size a (x.setCell ⟨b, i, none⟩ v) := h.setCell (p := ⟨b, i, none⟩) hb v
end Go.Proofs.YtpoejnajnaolpaaGreatDoor

namespace Go.Proofs.YtpoejnajnaolpaaGreatDoor
open Go.RowKit

theorem below_setCells (B b : Nat) (h : B ≤ b) : ∀ (vs : List Value) (o : Nat) (a x : World), Below B a x → Below B a (x.setCells b o vs)
  | [], _, _, _, hb => hb
  | v :: r, o, a, _, hb => below_setCells B b h r (o + 1) a _ (hb.setCell (p := ⟨b, o, none⟩) h v)

theorem infoByte : (Tryz.prog.info? 5).map (fun i => (i.zero, i.size, i.bytes)) = some (some (.int .u8 0), 1, 1) := by kernel_rfl
theorem bytesRow_size (s : ByteArray) (cap : Nat) (h : s.size ≤ cap) : (bytesRow s cap).size = cap := by
  have e : s.data.size = s.size := rfl
  simp [bytesRow, e]; omega

set_option maxHeartbeats 1000000 in
theorem append_str (w : World) (ty : TypeId) (g cap : Nat) (S : ByteArray) (hcap : S.size ≤ cap)
    (hrow : w.heap[g]? = some (.cells (bytesRow S cap) 5 ((bytesRow S cap).size, (bytesRow S cap).size + 1)))
    (B : Nat) (A : Option Addr) (c : Nat) (l : List UInt8) (hA : ByAt B w A c l) (h63 : S.size + l.length ≤ 1000000000) :
    ∃ A' c' w', (Builtin.append_ #[22, 22] ty #[.slice (some ⟨g, 0, none⟩) S.size cap, .slice A l.length c]).run Tryz.prog w = .ok (.slice A' (S.size + l.length) c') w' ∧
      ByAt w'.heap.size w' A' c' (S.data.toList ++ l) ∧ Below g w w' := by
  obtain ⟨i0, hi, hz0, hz1, hz2⟩ := info_parts infoByte
  have hgw := (Array.getElem?_eq_some_iff.1 hrow).1
  have hR := bytesRow_reads S cap w g _ hrow hcap
  have hSl : S.data.toList.length = S.size := by rw [Array.length_toList]; rfl
  have hRc : ∀ j (hj : j < S.data.toList.length), w.cell? ⟨g, 0 + j, none⟩ = some (.int .u8 (S.data.toList[j].toNat : Int)) := fun j hj => by
    rw [Array.length_toList] at hj
    rw [Nat.zero_add, cell_of_row w g j _ _ _ hrow, bytesRow_at S cap j hj]
    simp
  rcases hA.lies with rfl | ⟨b, off, rfl, _, _, hc⟩
  · refine ⟨some ⟨g, 0, none⟩, cap, w, ?_, by simpa using hR, Below.refl _ _⟩
    rcases A with _ | ad
    · simp [Builtin.append_, run_underlying Tryz.underlying22, sizeOf, typeInfo, hi, Builtin.lenOf, Builtin.firstCells, hcap, storeCells]
    · exact run_append_room_cells (P := Tryz.prog) w 22 ty 5 i0 Tryz.underlying22 hi g 0 S.size cap ad 0 c [] (by simp) (by simp) (by simp) (by omega) (by simp) (by simp)
  · have hnews : ∀ j u, (l.map fun x => Value.int .u8 (x.toNat : Int))[j]? = some u → w.cell? ((⟨b, off, none⟩ : Addr).add j) = some u := fun j u hj => by
      rw [List.getElem?_map] at hj
      obtain ⟨x, hx, rfl⟩ := Option.map_eq_some_iff.1 hj
      obtain ⟨hlt, rfl⟩ := List.getElem?_eq_some_iff.1 hx
      rw [Addr.add_lit]
      exact hc j hlt
    have h1 : ∀ u ∈ (l.map fun x => Value.int .u8 (x.toNat : Int)), u.oneCell' = true := fun u hu => by
      obtain ⟨x, _, rfl⟩ := List.mem_map.1 hu
      rfl
    have hl : (l.map fun x => Value.int .u8 (x.toNat : Int)).length = l.length * i0.size := by rw [hz1]; simp
    by_cases hroom : S.size + l.length ≤ cap
    · have hcell : ∀ j, S.size + j < cap → (w.cell? ⟨g, 0 + S.size * i0.size + j, none⟩).isSome = true := fun j hj => by
        rw [hz1, Nat.mul_one, Nat.zero_add, cell_of_row w g _ _ _ _ hrow, Array.getElem?_eq_getElem (by rw [bytesRow_size S cap hcap]; exact hj)]
        rfl
      have hr := run_append_room_cells (P := Tryz.prog) w 22 ty 5 i0 Tryz.underlying22 hi g 0 S.size cap ⟨b, off, none⟩ l.length c _ hl hnews h1 hroom
        (fun j hj => hcell j (by rw [List.length_map] at hj; omega))
        (fun j hj => by
          rw [List.length_map] at hj
          simp only [World.frozen?, hrow, hz1, bytesRow_size S cap hcap]
          simp; omega)
      have hb := below_setCells g g (Nat.le_refl _) (l.map fun x => Value.int .u8 (x.toNat : Int)) (0 + S.size * i0.size) w w (Below.refl _ _)
      have hsz := hb.size
      refine ⟨_, cap, _, hr, ⟨by rw [List.length_append, hSl]; omega, .inr ⟨g, 0, rfl, by omega, by omega, fun j hj => ?_⟩⟩, hb⟩
      rw [List.length_append, hSl] at hj
      by_cases hlt : j < S.size
      · rw [World.cell?_setCells_out g _ _ w _ (fun _ _ => Or.inl (by rw [hz1]; show 0 + j < 0 + S.size * 1; omega)), List.getElem_append_left (by rw [hSl]; exact hlt)]
        exact hRc j (by rw [hSl]; exact hlt)
      · have hj2 : j - S.size < (l.map fun x => Value.int .u8 (x.toNat : Int)).length := by rw [List.length_map]; omega
        have hin := World.cell?_setCells_in g (l.map fun x => Value.int .u8 (x.toNat : Int)) (0 + S.size * i0.size) w (fun j hj => hcell j (by rw [List.length_map] at hj; omega)) (j - S.size) hj2
        rw [hz1] at hin
        rw [hz1, show 0 + j = 0 + S.size * 1 + (j - S.size) by omega, hin, List.getElem_append_right (by rw [hSl]; omega)]
        simp [hSl]
    · obtain ⟨v', w', hr, hown, hg⟩ := run_append_arg_grows (P := Tryz.prog) w 22 ty 5 i0 _ 1 1 Tryz.underlying22 hi hz0 hz1 hz2 rfl (by decide) ⟨g, 0, none⟩ S.size cap (S.data.toList.map fun x => Value.int .u8 (x.toNat : Int)) (by rw [List.length_map, hSl, Nat.mul_one])
        (fun j u hj => by
          rw [List.getElem?_map] at hj
          obtain ⟨x, hx, rfl⟩ := Option.map_eq_some_iff.1 hj
          obtain ⟨hlt, rfl⟩ := List.getElem?_eq_some_iff.1 hx
          rw [Addr.add_lit]
          exact hRc j hlt)
        ⟨b, off, none⟩ l.length c (l.map fun x => Value.int .u8 (x.toNat : Int)) (by simp) hnews (by omega) (by unfold maxLen; omega) (by omega)
      have hb : Below g w w' := (Below.refl g w).grown hg (by omega) (fun _ e => by cases e)
      rcases hown.2 with ⟨_, h0⟩ | ⟨g', cap', cur, rfl, hg1, hg2, hle, _⟩
      · omega
      · refine ⟨_, _, w', hr, ?_, hb⟩
        refine ByAt.of_own (e := 5) (n := S.size + l.length) (base := w.heap.size) ?_
        have e : flatL encB (S.data.toList ++ l) = (S.data.toList.map fun x => Value.int .u8 (x.toNat : Int)) ++ l.map fun x => Value.int .u8 (x.toNat : Int) := by rw [flatB, List.map_append]
        rw [e, List.length_append, hSl]
        exact hown

theorem wpList_append_str {w : World} {ops : Array Oper} {rest : List Oper} {o : Oper} {a : Act} {Q : Exit → Act → World → Prop} (hgd : o.guard = none) (s x : Operand)
    (ho : o.op = .call { callee := .builtin .append, args := #[s, x], argTypes := #[22, 22] })
    (g cap m : Nat) (S : ByteArray) (hm : S.size = m) (hcap : m ≤ cap) (hs : a.eval s = .slice (some ⟨g, 0, none⟩) m cap)
    (hrow : w.heap[g]? = some (.cells (bytesRow S cap) 5 ((bytesRow S cap).size, (bytesRow S cap).size + 1)))
    (B : Nat) (A : Option Addr) (c : Nat) (l : List UInt8) (hx : a.eval x = .slice A l.length c) (hA : ByAt B w A c l) (h63 : m + l.length ≤ 1000000000) (n : Nat) (hn : m + l.length = n)
    (h : ∀ A' c' w', Hid (ByAt w'.heap.size w' A' c' (S.data.toList ++ l)) → Below g w w' → wpList Tryz.prog ops Q rest (a.put o.dst (.slice A' n c')) w') : wpList Tryz.prog ops Q (o :: rest) a w := by
  subst hm
  subst hn
  obtain ⟨A', c', w', hrun, h2, h3⟩ := append_str w o.type g cap S hcap hrow B A c l hA h63
  refine wpList_plain hgd fun K hK => ?_
  unfold Oper.wp execOp
  simp only [ho, resolve, invoke, builtin, Sem.run_bind, Sem.run_pure, Result.andThen_ok, List.map_toArray, List.map_cons, List.map_nil, hs, hx, hrun]
  exact hK _ _ (h A' c' w' h2 h3)
end Go.Proofs.YtpoejnajnaolpaaGreatDoor

namespace Go.Proofs.YtpoejnajnaolpaaGreatDoor
open Go.RowKit Go.Maps

section
variable {H : Type} {P : Program} (w : World) {ops : Array Oper} {rest : List Oper} {o : Oper} {a : Act} {Q : Exit → Act → World → Prop}

/-- An entry of a map's text. -/
theorem wpList_insert_own
    (hg : o.guard = none) (m x v : Operand) (t : TypeId) (hop : o.op = Op.insert t m x v)
    (k e : TypeId) (K : Keyed P k) (ht : P.underlying t = some (.map k e)) (R : Value → Option (DataW H × List MemPlace)) (b n : Nat) (D : DataW H)
    (hm : a.eval m = .map (some b)) (hown : w.ownsMap P k R b n D) (hn : n < maxLen) (key val : Value) (kl : Lit) (hx : a.eval x = key) (hv : a.eval v = val) (hkey : keyOf P k key = some kl)
    (d : DataW H) (ps : List MemPlace) (hval : R val = some (d, ps))
    (hK : ∀ w', w'.ownsMap P k R b (n + 1) (D.put kl d) → w.grownBy w' (some b) → wpList P ops Q rest (a.put o.dst undef) w') :
    wpList P ops Q (o :: rest) a w := by
  refine wpList_plain hg fun K' hK' => ?_
  obtain ⟨w', hrun, r1, r2⟩ := hown.update K ht hn hkey hval
  unfold Oper.wp
  simp [execOp, hop, hm, hx, hv, hrun, Result.andThen]
  exact hK' _ _ (hK w' r1 r2)

/-- 'm[k]' at string elements. -/
theorem wpList_lookup_own_string
    (hg : o.guard = none) (m x : Operand) (t : TypeId) (hop : o.op = Op.lookup t m x false)
    (k e : TypeId) (K : Keyed P k) (ht : P.underlying t = some (.map k e)) (he : P.underlying e = some .string) (hz : (zeroValue e).run P w = .ok (.string ⟨#[]⟩) w)
    (b n : Nat) (D : DataW H)
    (hm : a.eval m = .map (some b)) (hown : w.ownsMap P k (plainElem P e) b n D) (key : Value) (kl : Lit) (hx : a.eval x = key) (hkey : keyOf P k key = some kl)
    (hK : ∀ s : ByteArray, D.atKey kl (.lit (.string [])) = .lit (.string s.data.toList) → wpList P ops Q rest (a.put o.dst (.string s)) w) :
    wpList P ops Q (o :: rest) a w := by
  refine wpList_plain hg fun K' hK' => ?_
  obtain ⟨v, ps, hrun, hv⟩ := hown.lookup K ht hz (plainElem_string (H := H) he (s := ⟨#[]⟩) (by decide)) hkey
  obtain ⟨s, rfl, hc, hwc⟩ := plainElem_string_inv he hv
  simp only [Prod.mk.injEq] at hc
  unfold Oper.wp
  simp [execOp, hop, hm, hx, hrun, Result.andThen]
  exact hK' _ _ (hK s hc.1)

end

end Go.Proofs.YtpoejnajnaolpaaGreatDoor

namespace Go.Proofs.YtpoejnajnaolpaaGreatDoor
open Go.RowKit Go.Maps

theorem map_below {H : Type} {P : Program} {k : TypeId} {R : Value → Option (DataW H × List MemPlace)} {w w' : World} {b n : Nat} {D : DataW H} (hm : w.ownsMap P k R b n D) (hb : Below w.heap.size w w') : w'.ownsMap P k R b n D :=
  hm.kept (row := none) ⟨hb.os, hb.tape, hb.output, hb.size, fun k hk _ => hb.block k hk⟩ (by simp)
end Go.Proofs.YtpoejnajnaolpaaGreatDoor

namespace Go.Proofs.YtpoejnajnaolpaaGreatDoor
open Go.RowKit Go.Maps

theorem ofInt_i64 (a : Nat) (ha : a < 18446744073709551616) : (BitVec.ofInt 64 (a : Int)).toNat = a := by
  rw [BitVec.ofInt_natCast, BitVec.toNat_ofNat]; exact Nat.mod_eq_of_lt (by omega)
theorem wrap_i64_nat (a : Nat) (ha : a < 256) : IntKind.i64.wrap (a : Int) = (a : Int) := by
  have h : (a : Int) % 18446744073709551616 = a := by omega
  simp only [IntKind.wrap, IntKind.bits, IntKind.signed, Bool.true_and, Int.reducePow, Nat.reduceSub, ge_iff_le, h, decide_eq_true_eq]
  rw [if_neg (by omega)]
theorem i64_and_nat (a b : Nat) (ha : a < 256) (hb : b < 256) : bits .and .i64 (a : Int) (b : Int) = ((a &&& b : Nat) : Int) := by
  have hx : a &&& b < 2 ^ 8 := Nat.and_lt_two_pow _ (by omega)
  show IntKind.i64.wrap ((BitVec.ofInt 64 (a : Int) &&& BitVec.ofInt 64 (b : Int)).toNat : Int) = _
  rw [BitVec.toNat_and, ofInt_i64 a (by omega), ofInt_i64 b (by omega)]
  exact wrap_i64_nat _ hx
theorem i64_or_nat (a b : Nat) (ha : a < 256) (hb : b < 256) : bits .or .i64 (a : Int) (b : Int) = ((a ||| b : Nat) : Int) := by
  have hx : a ||| b < 2 ^ 8 := Nat.or_lt_two_pow (by omega) (by omega)
  show IntKind.i64.wrap ((BitVec.ofInt 64 (a : Int) ||| BitVec.ofInt 64 (b : Int)).toNat : Int) = _
  rw [BitVec.toNat_or, ofInt_i64 a (by omega), ofInt_i64 b (by omega)]
  exact wrap_i64_nat _ hx
theorem bit64_yes {f o : Nat} (hf : f < 256) (ho : o < 256) (h : f &&& o = 0) : (bits BinOp.and IntKind.i64 (f : Int) (o : Int) == 0) = true := by
  rw [i64_and_nat f o hf ho, h]; rfl
theorem bit64_no {f o : Nat} (hf : f < 256) (ho : o < 256) (h : f &&& o ≠ 0) : (bits BinOp.and IntKind.i64 (f : Int) (o : Int) == 0) = false := by
  rw [i64_and_nat f o hf ho]
  simp only [beq_eq_false_iff_ne, ne_eq, Int.natCast_eq_zero]
  exact h
theorem not31 : ∀ a b : Fin 32, a.val &&& (18446744073709551615 - b.val) = a.val &&& (255 - b.val) := by decide +kernel
theorem i64_andNot_nat (a b : Nat) (ha : a < 32) (hb : b < 32) : bits .andNot .i64 (a : Int) (b : Int) = ((a &&& (255 - b) : Nat) : Int) := by
  have hx : a &&& (255 - b) < 2 ^ 8 := Nat.and_lt_two_pow _ (by omega)
  show IntKind.i64.wrap ((BitVec.ofInt 64 (a : Int) &&& ~~~BitVec.ofInt 64 (b : Int)).toNat : Int) = _
  rw [BitVec.toNat_and, BitVec.toNat_not, ofInt_i64 a (by omega), ofInt_i64 b (by omega)]
  have e : 2 ^ 64 - 1 - b = 18446744073709551615 - b := by omega
  rw [e, not31 ⟨a, ha⟩ ⟨b, hb⟩]
  exact wrap_i64_nat _ hx

/-- What a change leads to. -/
def changeO (old : Nat) (mode : Int) (f : Nat) : Option Nat :=
  if 31 < old ∨ 31 < f then none else if mode = 0 then some f else if mode = 1 then some (old ||| f) else if mode = 2 then some (old &&& (255 - f)) else none
theorem high1 : ∀ a : Fin 256, a.val &&& 224 = 0 ↔ a.val ≤ 31 := by decide +kernel
theorem high_or (a b : Nat) (ha : a < 256) (hb : b < 256) : ((a ||| b) &&& 224 = 0) ↔ (a ≤ 31 ∧ b ≤ 31) := by
  rw [Nat.and_or_distrib_right, Nat.or_eq_zero_iff, high1 ⟨a, ha⟩, high1 ⟨b, hb⟩]

/-- How a function's value reads: by its number. -/
def fnElem : Value → Option (DataW Unit × List MemPlace)
  | .nilFunc => some (.nil, [])
  | .func (.func n) a b => if a.size = 0 ∧ b.size = 0 then some (.lit (.int .i64 n), []) else none
  | _ => none
theorem fnElem_nil {v : Value} {ps : List MemPlace} (h : fnElem v = some (.nil, ps)) : v = .nilFunc := by
  unfold fnElem at h
  split at h
  · rfl
  · split at h <;> simp at h
  · cases h
theorem fnElem_fn {v : Value} {n : Nat} {ps : List MemPlace} (h : fnElem v = some (.lit (.int .i64 n), ps)) : v = .func (.func n) #[] #[] := by
  unfold fnElem at h
  split at h
  · simp at h
  · rename_i m a b
    split at h
    · rename_i hs
      simp at h
      obtain ⟨h, _⟩ := h
      have ha : a = #[] := by apply Array.eq_empty_of_size_eq_zero hs.1
      have hb : b = #[] := by apply Array.eq_empty_of_size_eq_zero hs.2
      subst ha hb
      first
        | (subst h; rfl)
        | (have hm : m = n := Int.ofNat.inj h; subst hm; rfl)
    · cases h
  · cases h
def fnD (n : Nat) : DataW Unit := .lit (.int .i64 (n : Int))
end Go.Proofs.YtpoejnajnaolpaaGreatDoor

namespace Go.Proofs.YtpoejnajnaolpaaGreatDoor
open Go.RowKit

/-- A string's cells. -/
def encS (x : List UInt8) : List Value := [.string ⟨x.toArray⟩]
theorem encS_len (x : List UInt8) : (encS x).length = 1 := rfl
theorem infoS : (Tryz.prog.info? 9).map (fun i => (i.zero, i.size, i.bytes)) = some (some (.string ⟨#[]⟩), 1, 16) := by kernel_rfl
end Go.Proofs.YtpoejnajnaolpaaGreatDoor

namespace Go.Proofs.YtpoejnajnaolpaaGreatDoor
open Go.RowKit

section
variable {P : Program} {ops : Array Oper} {Q : Exit → Act → World → Prop}

theorem ready_of {listed : Array Bool} {i : Nat} (h : i ∈ Region.ready .any ops listed) : listed.getD i true = false ∧ ∃ o, ops[i]? = some o ∧ ∀ e ∈ o.after, Region.binds .any e = true → listed.getD e.on false = true := by
  unfold Region.ready at h
  rw [List.mem_filter] at h
  obtain ⟨_, h⟩ := h
  rw [Bool.and_eq_true] at h
  refine ⟨by simpa using h.1, ?_⟩
  cases ho : ops[i]? with
  | none => rw [ho] at h; simp at h
  | some o =>
    rw [ho] at h
    refine ⟨o, rfl, fun e he hb => ?_⟩
    have h2 : o.after.all (fun e => !Region.binds .any e || listed.getD e.on false) = true := by simpa using h.2
    rw [Array.all_eq_true'] at h2
    have := h2 e he
    rw [hb] at this
    simpa using this
theorem ready_mk {listed : Array Bool} {i : Nat} {o : Oper} (hi : ops[i]? = some o) (h1 : listed.getD i true = false) (h2 : ∀ e ∈ o.after, listed.getD e.on false = true) : i ∈ Region.ready .any ops listed := by
  unfold Region.ready
  rw [List.mem_filter]
  refine ⟨List.mem_range.2 (Array.getElem?_eq_some_iff.1 hi).1, ?_⟩
  rw [hi, h1]
  have : o.after.all (fun e => !Region.binds .any e || listed.getD e.on false) = true := by
    rw [Array.all_eq_true']
    intro e he
    rw [h2 e he, Bool.or_true]
  simpa using this
def cntF (l : Array Bool) : Nat := l.toList.count false
theorem cntF_set {l : Array Bool} {i : Nat} (h : l.getD i true = false) : cntF (l.setIfInBounds i true) + 1 = cntF l := by
  unfold cntF
  by_cases hi : i < l.size
  · have h0 : l.toList[i]'(by simpa using hi) = false := by simpa [hi] using h
    rw [Array.toList_setIfInBounds]
    have hs : l.toList.set i true = l.toList.take i ++ true :: l.toList.drop (i + 1) := List.set_eq_take_append_cons_drop.trans (by rw [if_pos (by simpa using hi)])
    have hl : l.toList = l.toList.take i ++ false :: l.toList.drop (i + 1) := by
      conv => lhs; rw [← List.take_append_drop i l.toList, List.drop_eq_getElem_cons (by simpa using hi), h0]
    rw [hs]
    conv => rhs; rw [hl]
    rw [List.count_append, List.count_append, List.count_cons_of_ne (by decide), List.count_cons_self]
    omega
  · rw [Array.getD_eq_getD_getElem?, Array.getElem?_eq_none (by omega)] at h
    simp at h
theorem getD_set {l : Array Bool} {i j : Nat} (hi : i < l.size) : (l.setIfInBounds i true).getD j false = if j = i then true else l.getD j false := by
  rw [Array.getD_eq_getD_getElem?, Array.getElem?_setIfInBounds]
  by_cases h : i = j
  · subst h
    simp [hi]
  · rw [if_neg h, if_neg (fun e => h e.symm), Array.getD_eq_getD_getElem?]

/-- A region that draws its order, by an invariant over what is listed. -/
theorem wpAny_inv (I : Array Bool → Act → World → Prop)
    (step : ∀ listed a w i, listed.size = ops.size → I listed a w → i ∈ Region.ready .any ops listed → wpOp P ops Q i (fun a' w' => I (listed.setIfInBounds i true) a' w') a w)
    (done : ∀ listed a w, listed.size = ops.size → I listed a w → Region.ready .any ops listed = [] → Q .normal a w) :
    ∀ fuel listed a w, listed.size = ops.size → cntF listed ≤ fuel → I listed a w → wpAny P .any ops Q fuel listed a w := by
  intro fuel
  induction fuel with
  | zero =>
    intro listed a w hs hc hI
    have hr : Region.ready .any ops listed = [] := by
      rw [List.eq_nil_iff_forall_not_mem]
      intro i hi
      obtain ⟨h1, _⟩ := ready_of hi
      have := cntF_set h1
      omega
    exact ⟨hr, done listed a w hs hI hr⟩
  | succ fuel ih =>
    intro listed a w hs hc hI
    refine ⟨fun hr => done listed a w hs hI hr, fun i hi => wpOp_mono (fun a' w' hI' => ih _ a' w' (by rw [Array.size_setIfInBounds]; exact hs) ?_ hI') (step listed a w i hs hI hi)⟩
    obtain ⟨h1, _⟩ := ready_of hi
    have := cntF_set h1
    omega
/-- Nothing is ready: all are listed, where each waits for earlier ones alone. -/
theorem all_listed {listed : Array Bool} (hs : listed.size = ops.size) (hr : Region.ready .any ops listed = []) (hb : ∀ (i : Nat) (o : Oper), ops[i]? = some o → ∀ e ∈ o.after, e.on < i) : ∀ n i, i < n → i < ops.size → listed.getD i false = true := by
  intro n
  induction n with
  | zero => intro i hi; omega
  | succ n ih =>
    intro i hi hio
    cases hl : listed.getD i true with
    | true =>
      rw [Array.getD_eq_getD_getElem?, Array.getElem?_eq_getElem (by omega)] at hl ⊢
      simpa using hl
    | false =>
      have ho := Array.getElem?_eq_getElem hio
      have := ready_mk ho hl (fun e he => ih e.on (by have := hb i _ ho e he; omega) (by have := hb i _ ho e he; omega))
      rw [hr] at this
      cases this

theorem wpOp_of {i : Nat} {o : Oper} {K : Act → World → Prop} {a : Act} {w : World} (hi : ops[i]? = some o) (hg : o.guard = none) (h : o.wp P a w K Q) : wpOp P ops Q i K a w := by
  unfold wpOp
  rw [hi]
  simp only [Region.wanted, hg]
  exact .inl h
end

theorem tm_put (a : Act) (d j : Nat) (v : Value) (hd : d < a.tmps.size) : (a.put (some d) v).tmps[j]? = if j = d then some v else a.tmps[j]? := by
  show (a.tmps.setIfInBounds d v)[j]? = _
  rw [Array.getElem?_setIfInBounds]
  by_cases h : d = j
  · subst h; simp [hd]
  · rw [if_neg h, if_neg (fun e => h e.symm)]

theorem getD_tf {l : Array Bool} {i : Nat} (hi : i < l.size) (h : l.getD i true = false) : l.getD i false = false := by
  rw [Array.getD_eq_getD_getElem?, Array.getElem?_eq_getElem hi] at h ⊢
  simpa using h

theorem repl_getD (n i : Nat) : (Array.replicate n false).getD i false = false := by
  rw [Array.getD_eq_getD_getElem?, Array.getElem?_replicate]
  split <;> rfl

end Go.Proofs.YtpoejnajnaolpaaGreatDoor

namespace Go.Proofs.YtpoejnajnaolpaaGreatDoor
open Go.RowKit

set_option maxRecDepth 100000 in
set_option maxHeartbeats 400000 in
theorem up1_any (n : Nat) (w : World) (h1 : n ≤ 255) :
    Calls Tryz.prog 147 #[.int .u8 n] w fun e w' => e = .returned (.int .u8 (upN n : Nat)) ∧ w = w' := by
  by_cases ha : 97 ≤ n
  · by_cases hb : n ≤ 122
    · have R := Lib.hid (show (upN n : Nat) = n - 32 by unfold upN; rw [if_pos ⟨ha, hb⟩])
      go_enter Tryz.func147, Tryz.ntmps147
      go_wp2
      go_ret
      exact ⟨by rw [R.out]; exact ret_int (by omega), rfl⟩
    · have R := Lib.hid (show (upN n : Nat) = n by unfold upN; rw [if_neg (by omega)])
      go_enter Tryz.func147, Tryz.ntmps147
      go_wp2
      go_ret
      exact ⟨by rw [R.out]; rfl, rfl⟩
  · have R := Lib.hid (show (upN n : Nat) = n by unfold upN; rw [if_neg (by omega)])
    go_enter Tryz.func147, Tryz.ntmps147
    go_wp2
    go_ret
    exact ⟨by rw [R.out]; rfl, rfl⟩

/-- Behind k rounds: the first k bytes are capital, the others as they were. -/
def byteAt (s : ByteArray) (k j : Nat) : UInt8 := if j < k then upB (s.data.toList.getD j 0) else s.data.toList.getD j 0
structure Cells (s : ByteArray) (k b : Nat) (w : World) : Prop where
  out : ∀ j, j < s.size → w.cell? ⟨b, j, none⟩ = some (.int .u8 ((byteAt s k j).toNat : Nat)) ∧ w.frozen? ⟨b, j, none⟩ = false
theorem cells_start (s : ByteArray) (w : World) : Cells s 0 w.heap.size (Lib.bytesWorld w 5 s) := ⟨fun j hj => by
  refine ⟨?_, ?_⟩
  · rw [Lib.bytesWorld_cell w _ s j hj]; rfl
  · simp only [World.frozen?, Lib.bytesWorld_at_new]
    have : j < (Lib.bytesCells w 5 s).size := by simp [Lib.bytesCells]; omega
    simp; omega⟩
theorem upL_get (l : List UInt8) (j : Nat) (h : j < (upL l).length) : (upL l)[j] = upB (l.getD j 0) := by
  have h' : j < l.length := by simpa [upL] using h
  simp [upL, h']
theorem cells_next {s : ByteArray} {k b : Nat} {w : World} (h : Cells s k b w) (hk : k < s.size) : Cells s (k + 1) b (w.setCell ⟨b, k, none⟩ (.int .u8 (upN (byteAt s k k).toNat : Nat))) := ⟨fun j hj => by
  obtain ⟨hc, hf⟩ := h.out j hj
  refine ⟨?_, ?_⟩
  · by_cases e : j = k
    · subst e
      rw [World.cell?_setCell_same _ _ _ hc]
      have h1 : byteAt s (j + 1) j = upB (byteAt s j j) := by unfold byteAt; rw [if_pos (by omega), if_neg (by omega)]
      rw [h1, upB_toNat]
    · rw [World.cell?_setCell_other _ _ _ _ (by simp <;> omega), hc]
      have h1 : byteAt s (k + 1) j = byteAt s k j := by
        unfold byteAt
        by_cases hj2 : j < k
        · rw [if_pos (by omega), if_pos hj2]
        · rw [if_neg (by omega), if_neg hj2]
      rw [h1]
  · rw [World.frozen?_setCell]; exact hf⟩
theorem cells_back {s : ByteArray} {b : Nat} {w : World} (h : Cells s s.size b w) (cap : Nat) :
    (convert 22 9 (.slice (some ⟨b, 0, none⟩) s.size cap)).run Tryz.prog w = .ok (.string ⟨(upL s.data.toList).toArray⟩) w := by
  have hl : (upL s.data.toList).length = s.size := by rw [upL_length]; simp
  have e := run_convert_bytes_back (P := Tryz.prog) w 22 9 5 ⟨b, 0, none⟩ cap (upL s.data.toList) Tryz.underlying22 Tryz.underlying5 Tryz.underlying9 (fun j hj => by
    rw [hl] at hj
    rw [Lib.add_plain, Nat.zero_add, (h.out j hj).1]
    rw [upL_get]
    unfold byteAt
    rw [if_pos hj])
  rw [hl] at e
  exact e

set_option maxRecDepth 100000 in
set_option maxHeartbeats 400000 in
theorem change_any (s : ByteArray) (hs : s.size ≤ 1000000000) (w : World) :
    Calls Tryz.prog 146 #[.string s, .func (Fn.func 147) #[] #[]] w fun e w' => e = .returned (.string ⟨(upL s.data.toList).toArray⟩) ∧ Below w.heap.size w w' := by
  have hcv := fun (w : World) => Lib.run_convert_string_bytes (P := Tryz.prog) w 9 22 5 s Tryz.underlying9 Tryz.underlying22 Tryz.underlying5
  go_enter Tryz.func146, Tryz.ntmps146
  go_wp2_with fail
  clear hcv
  go_loopw [12] (fun i wr => ∃ k : Nat, k ≤ s.size ∧ i = .int .i64 k ∧ Cells s k w.heap.size wr ∧ Below w.heap.size w wr) (fun i _ => s.size - (intOf i).toNat)
  case atStart => exact ⟨0, Nat.zero_le _, rfl, cells_start s w, Joins.below_bytesWorld _ _ _ _ (Nat.le_refl _)⟩
  case round =>
    obtain ⟨k, hk, rfl, HC, hb⟩ := hrel
    by_cases hlt : k < s.size
    · have hc := (HC.out k hlt).1
      have hf := (HC.out k hlt).2
      have HN := cells_next HC hlt
      have U := Lib.hid (up1_any (byteAt s k k).toNat wr (by have := (byteAt s k k).toNat_lt; omega))
      generalize (byteAt s k k).toNat = c at *
      have HNs := hb.setCell (p := ⟨w.heap.size, k, none⟩) (Nat.le_refl _) (.int .u8 (upN c : Nat))
      generalize upN c = d at *
      go_wp2_with (go_at_call 147; refine U.out.mono ?_; rintro e w' ⟨rfl, rfl⟩)
      go_roundw
      case rel => exact ⟨k + 1, by omega, by go_num, HN, HNs⟩
      case measure => simp [intOf]; omega
    · obtain rfl : k = s.size := by omega
      have hcb := cells_back HC
      go_wp2_with fail
      go_ret
      exact ⟨rfl, hb⟩

set_option maxRecDepth 100000 in
theorem upper_any (s : ByteArray) (hs : s.size ≤ 1000000000) (w : World) :
    Calls Tryz.prog 131 #[.string s] w fun e w' => e = .returned (.string ⟨(upL s.data.toList).toArray⟩) ∧ Below w.heap.size w w' := by
  have C := Lib.hid (change_any s hs w)
  go_enter Tryz.func131, Tryz.ntmps131
  go_wp2_with (go_at_call 146; refine C.out.mono ?_; rintro e w' ⟨rfl, hb⟩)
  go_ret
  exact ⟨rfl, hb⟩

end Go.Proofs.YtpoejnajnaolpaaGreatDoor
