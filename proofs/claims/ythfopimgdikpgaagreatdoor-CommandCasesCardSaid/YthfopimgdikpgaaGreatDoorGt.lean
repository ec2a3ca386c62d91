/- Layer 3 in plain words: the names of flags, the single flags of a set, what a list of names denotes. No walk. -/
import Derived.Test.YthfopimgdikpgaaGreatDoorGa
import Derived.Maps.Ext
import Derived.Maps.RangeWalk
import Derived.Lib.ConvBytes
import Derived.Lib.SmallJoins
import Derived.Lib.Join
import Derived.Lib.Strings
namespace Go.Proofs.YthfopimgdikpgaaGreatDoor
open Go.RowKit Go.Maps

/-- The name of a flag. -/
def nameF (f : Nat) : List UInt8 :=
  if f = 1 then [92, 65, 110, 115, 119, 101, 114, 101, 100] else if f = 2 then [92, 70, 108, 97, 103, 103, 101, 100] else if f = 4 then [92, 68, 101, 108, 101, 116, 101, 100]
  else if f = 8 then [92, 83, 101, 101, 110] else if f = 16 then [92, 68, 114, 97, 102, 116] else []
def strD (l : List UInt8) : DataW Unit := .lit (.string l)
def flgD (f : Nat) : DataW Unit := .lit (.int .u8 (f : Int))
/-- The map of names, as it reads. -/
def nmD : DataW Unit := (((((DataW.map []).put (.int .u8 1) (strD (nameF 1))).put (.int .u8 2) (strD (nameF 2))).put (.int .u8 4) (strD (nameF 4))).put (.int .u8 8) (strD (nameF 8))).put (.int .u8 16) (strD (nameF 16))
/-- The flag of a name in capital letters, or 0. -/
def flagU (l : List UInt8) : Nat :=
  if l = upL (nameF 1) then 1 else if l = upL (nameF 2) then 2 else if l = upL (nameF 4) then 4 else if l = upL (nameF 8) then 8 else if l = upL (nameF 16) then 16 else 0
/-- The flag of a name in letters of any case, or 0. -/
def flagL (l : List UInt8) : Nat := flagU (upL l)
/-- As the reference says it: -1 for none. -/
def refO : Option Nat → Int
  | some x => x
  | none => -1
/-- The single flags. -/
def ones : List Nat := [1, 2, 4, 8, 16]
def eachL (f : Nat) : List Nat := ones.filter fun o => f &&& o != 0

theorem ones_mem {x : Nat} : x ∈ ones ↔ x = 1 ∨ x = 2 ∨ x = 4 ∨ x = 8 ∨ x = 16 := by simp [ones]

theorem isMap_nm : IsMap nmD := ((((isMap_empty.put _ _).put _ _).put _ _).put _ _).put _ _
/-- What stands in the map of names at a number. -/
theorem nm_at (x : Int) (z : DataW Unit) : nmD.atKey (.int .u8 x) z = if x = 1 then strD (nameF 1) else if x = 2 then strD (nameF 2) else if x = 4 then strD (nameF 4) else if x = 8 then strD (nameF 8) else if x = 16 then strD (nameF 16) else z := by
  have hne : ∀ {a b : Int}, a ≠ b → Lit.int IntKind.u8 a ≠ .int .u8 b := fun h e => by injection e; contradiction
  by_cases h1 : x = 1
  · subst h1; rfl
  by_cases h2 : x = 2
  · subst h2; rfl
  by_cases h4 : x = 4
  · subst h4; rfl
  by_cases h8 : x = 8
  · subst h8; rfl
  by_cases h16 : x = 16
  · subst h16; rfl
  rw [if_neg h1, if_neg h2, if_neg h4, if_neg h8, if_neg h16]
  unfold nmD
  rw [atKey_put_other (hne h16), atKey_put_other (hne h8), atKey_put_other (hne h4), atKey_put_other (hne h2), atKey_put_other (hne h1)]
  rfl
theorem nm_name (x : Nat) : nmD.atKey (.int .u8 (x : Int)) (strD []) = strD (nameF x) := by
  rw [nm_at]
  by_cases h1 : x = 1
  · subst h1; rfl
  by_cases h2 : x = 2
  · subst h2; rfl
  by_cases h4 : x = 4
  · subst h4; rfl
  by_cases h8 : x = 8
  · subst h8; rfl
  by_cases h16 : x = 16
  · subst h16; rfl
  rw [if_neg (by omega), if_neg (by omega), if_neg (by omega), if_neg (by omega), if_neg (by omega)]
  unfold nameF
  rw [if_neg h1, if_neg h2, if_neg h4, if_neg h8, if_neg h16]
/-- What has come out of the map of names. -/
theorem nm_found {x : Int} {c : List UInt8} (hat : ∀ zd, nmD.atKey (.int .u8 x) zd = strD c) : ∃ f : Nat, x = (f : Int) ∧ f ∈ ones ∧ c = nameF f := by
  have h1 := hat (flgD 0)
  rw [nm_at] at h1
  have inj : ∀ {a b : List UInt8}, strD a = strD b → b = a := fun h => by unfold strD at h; injection h with h; injection h with h; exact h.symm
  split at h1
  · rename_i e; exact ⟨1, e, by decide, inj h1⟩
  split at h1
  · rename_i e; exact ⟨2, e, by decide, inj h1⟩
  split at h1
  · rename_i e; exact ⟨4, e, by decide, inj h1⟩
  split at h1
  · rename_i e; exact ⟨8, e, by decide, inj h1⟩
  split at h1
  · rename_i e; exact ⟨16, e, by decide, inj h1⟩
  unfold flgD strD at h1
  cases h1

theorem flagU_name {f : Nat} (hf : f ∈ ones) : flagU (upL (nameF f)) = f := by
  rcases ones_mem.1 hf with rfl | rfl | rfl | rfl | rfl <;> decide
theorem flagU_is (l : List UInt8) : flagU l = 0 ∨ (flagU l ∈ ones ∧ l = upL (nameF (flagU l))) := by
  unfold flagU
  split
  · rename_i h; exact .inr ⟨by decide, h⟩
  split
  · rename_i h; exact .inr ⟨by decide, h⟩
  split
  · rename_i h; exact .inr ⟨by decide, h⟩
  split
  · rename_i h; exact .inr ⟨by decide, h⟩
  split
  · rename_i h; exact .inr ⟨by decide, h⟩
  · exact .inl rfl
theorem flagU_eq {l : List UInt8} {f : Nat} (hf : f ∈ ones) : flagU l = f ↔ l = upL (nameF f) := by
  constructor
  · intro h
    rcases flagU_is l with h0 | ⟨_, h1⟩
    · rw [h0] at h; subst h; simp [ones] at hf
    · rw [h] at h1; exact h1
  · rintro rfl; exact flagU_name hf

/-- The map of flags while it is filled: what is no longer to come is in it. -/
def FlagsInv (D : DataW Unit) (left : Lit → Bool) : Prop :=
  IsMap D ∧ ∀ l z, D.atKey (.string l) z = if flagU l ≠ 0 ∧ left (.int .u8 (flagU l : Int)) = false then flgD (flagU l) else z
/-- The map of flags. -/
def FlagsD (D : DataW Unit) : Prop := ∀ l z, D.atKey (.string l) z = if flagU l ≠ 0 then flgD (flagU l) else z

theorem flags_start : FlagsInv (.map []) (has nmD) := by
  refine ⟨isMap_empty, fun l z => ?_⟩
  rw [if_neg]
  · rfl
  · rintro ⟨h0, h1⟩
    rcases flagU_is l with h | ⟨h, _⟩
    · exact h0 h
    · rcases ones_mem.1 h with e | e | e | e | e <;> (rw [e] at h1; revert h1; decide)
theorem flags_step {D : DataW Unit} {left : Lit → Bool} {f : Nat} (hf : f ∈ ones) (h : FlagsInv D left) :
    FlagsInv (D.put (.string (upL (nameF f))) (flgD f)) (fun z => left z && !z.sameKey (.int .u8 (f : Int))) := by
  refine ⟨h.1.put _ _, fun l z => ?_⟩
  by_cases e : l = upL (nameF f)
  · have h0 : flagU l = f := (flagU_eq hf).2 e
    have hs : (Lit.int .u8 (f : Int)).sameKey (.int .u8 (f : Int)) = true := by simp [Lit.sameKey]
    have hne : f ≠ 0 := by rintro rfl; simp [ones] at hf
    rw [h0, if_pos ⟨hne, by simp only [hs]; simp⟩, e]
    exact atKey_put_same h.1 (by simp [WideAt.IsKeyLit]) _ _
  · rw [atKey_put_other (fun h => e (by injection h)), h.2 l z]
    by_cases h0 : flagU l = 0
    · rw [if_neg (fun h => h.1 h0), if_neg (fun h => h.1 h0)]
    · have hne : (flagU l : Int) ≠ f := fun h => e ((flagU_eq hf).1 (by omega))
      have hs : (Lit.int .u8 (flagU l : Int)).sameKey (.int .u8 (f : Int)) = false := by simp [Lit.sameKey]; omega
      simp only [hs]
      simp
theorem flags_end {D : DataW Unit} {left : Lit → Bool} (h : FlagsInv D left) (hl : ∀ kl, left kl = false) : FlagsD D := fun l z => by
  rw [h.2 l z]
  simp [hl]
theorem FlagsD.has {D : DataW Unit} (h : FlagsD D) (l : List UInt8) : Maps.has D (.string l) = decide (flagU l ≠ 0) := by
  by_cases h0 : flagU l = 0
  · rw [has_false_of_atKey (fun z => by rw [h l z, if_neg (by simpa using h0)])]
    simp [h0]
  · rw [has_true_of_atKey (fun z => by rw [h l z, if_pos h0])]
    simp [h0]
theorem FlagsD.at {D : DataW Unit} (h : FlagsD D) {l : List UInt8} {c : Int} (hat : D.atKey (.string l) (.lit (.int .u8 0)) = .lit (.int .u8 c)) : c = (flagU l : Int) := by
  rw [h l] at hat
  split at hat
  · unfold flgD at hat; injection hat with hat; injection hat with _ hat; exact hat.symm
  · rename_i h0
    injection hat with hat
    injection hat with _ hat
    have : flagU l = 0 := by simpa using h0
    rw [this]; exact hat.symm
end Go.Proofs.YthfopimgdikpgaaGreatDoor

namespace Go.Proofs.YthfopimgdikpgaaGreatDoor
open Go.RowKit Go.Maps

theorem keyF : Keyed Tryz.prog 25 := int_keyed Tryz.underlying25
theorem keyS : Keyed Tryz.prog 9 := string_keyed Tryz.underlying9
theorem zeroS (w : World) : (zeroValue 9).run Tryz.prog w = .ok (.string ⟨#[]⟩) w := by kernel_rfl
theorem zeroF (w : World) : (zeroValue 25).run Tryz.prog w = .ok (.int .u8 0) w := by kernel_rfl
theorem kF (x : Nat) (h : x ≤ 255) : keyOf Tryz.prog 25 (.int .u8 (x : Int)) = some (.int .u8 (x : Int)) :=
  keyOf_int_mk Tryz.underlying25 (by simp [Lit.wf, IntKind.min, IntKind.max, IntKind.signed, IntKind.bits]; omega)
theorem eS (l : List UInt8) (h : l.length ≤ 100) : plainElem (H := Unit) Tryz.prog 9 (.string ⟨l.toArray⟩) = some (strD l, []) :=
  plainElem_string Tryz.underlying9 (s := ⟨l.toArray⟩) (by unfold maxLen; show l.toArray.size ≤ _; simp; omega)

set_option maxRecDepth 100000 in
theorem names_any (w : World) :
    Calls Tryz.prog 122 #[] w fun e w' => e = .returned (.map (some w.heap.size)) ∧ w'.ownsMap Tryz.prog 25 (plainElem Tryz.prog 9) w.heap.size 5 nmD ∧ Below w.heap.size w w' := by
  have hmm := @run_makeMap Tryz.prog
  have hown := World.ownsMap_made (H := Unit) w Tryz.prog 25 (plainElem Tryz.prog 9)
  have hb : Below w.heap.size w (w.alloc (.map #[] 0)) := (Below.refl _ _).alloc (Nat.le_refl _) _
  have HO := Lib.hid hown
  clear hown
  go_enter Tryz.func122, Tryz.ntmps122
  go_wp2_with (first
    | (refine wpList_insert_own (H := Unit) _ rfl _ (.const (.int .u8 1)) _ 149 rfl 25 9 keyF Tryz.underlying149 (plainElem Tryz.prog 9) w.heap.size 0 _ rfl HO.out (by decide) (.int .u8 1) _ (.int .u8 1) rfl rfl (kF 1 (by decide)) _ [] (eS (nameF 1) (by decide)) ?_; intro w1 ho1 hg1; have HO1 := Lib.hid ho1; have hb1 := hb.grown hg1 (by simp) (fun j hj => by cases hj; exact Nat.le_refl _); clear ho1 hg1)
    | (refine wpList_insert_own (H := Unit) _ rfl _ (.const (.int .u8 2)) _ 149 rfl 25 9 keyF Tryz.underlying149 (plainElem Tryz.prog 9) w.heap.size 1 _ rfl HO1.out (by decide) (.int .u8 2) _ (.int .u8 2) rfl rfl (kF 2 (by decide)) _ [] (eS (nameF 2) (by decide)) ?_; intro w2 ho2 hg2; have HO2 := Lib.hid ho2; have hb2 := hb1.grown hg2 (by exact hb1.size) (fun j hj => by cases hj; exact Nat.le_refl _); clear ho2 hg2)
    | (refine wpList_insert_own (H := Unit) _ rfl _ (.const (.int .u8 4)) _ 149 rfl 25 9 keyF Tryz.underlying149 (plainElem Tryz.prog 9) w.heap.size 2 _ rfl HO2.out (by decide) (.int .u8 4) _ (.int .u8 4) rfl rfl (kF 4 (by decide)) _ [] (eS (nameF 4) (by decide)) ?_; intro w3 ho3 hg3; have HO3 := Lib.hid ho3; have hb3 := hb2.grown hg3 (by exact hb2.size) (fun j hj => by cases hj; exact Nat.le_refl _); clear ho3 hg3)
    | (refine wpList_insert_own (H := Unit) _ rfl _ (.const (.int .u8 8)) _ 149 rfl 25 9 keyF Tryz.underlying149 (plainElem Tryz.prog 9) w.heap.size 3 _ rfl HO3.out (by decide) (.int .u8 8) _ (.int .u8 8) rfl rfl (kF 8 (by decide)) _ [] (eS (nameF 8) (by decide)) ?_; intro w4 ho4 hg4; have HO4 := Lib.hid ho4; have hb4 := hb3.grown hg4 (by exact hb3.size) (fun j hj => by cases hj; exact Nat.le_refl _); clear ho4 hg4)
    | (refine wpList_insert_own (H := Unit) _ rfl _ (.const (.int .u8 16)) _ 149 rfl 25 9 keyF Tryz.underlying149 (plainElem Tryz.prog 9) w.heap.size 4 _ rfl HO4.out (by decide) (.int .u8 16) _ (.int .u8 16) rfl rfl (kF 16 (by decide)) _ [] (eS (nameF 16) (by decide)) ?_; intro w5 ho5 hg5; have HO5 := Lib.hid ho5; have hb5 := hb4.grown hg5 (by exact hb4.size) (fun j hj => by cases hj; exact Nat.le_refl _); clear ho5 hg5))
  go_ret
  exact ⟨rfl, HO5.out, hb5⟩
theorem str_of {s : ByteArray} {l : List UInt8} (h : s.data.toList = l) : s = ⟨l.toArray⟩ := by subst h; cases s; rfl
theorem ret_str {a b : ByteArray} (h : a = b) : Ending.returned (.string a) = .returned (.string b) := by rw [h]
end Go.Proofs.YthfopimgdikpgaaGreatDoor

namespace Go.Proofs.YthfopimgdikpgaaGreatDoor
open Go.RowKit

set_option maxRecDepth 100000 in
set_option maxHeartbeats 400000 in
theorem up1_any (n : Nat) (w : World) (h1 : n ≤ 255) :
    Calls Tryz.prog 56 #[.int .u8 n] w fun e w' => e = .returned (.int .u8 (upN n : Nat)) ∧ w = w' := by
  by_cases ha : 97 ≤ n
  · by_cases hb : n ≤ 122
    · have R := Lib.hid (show (upN n : Nat) = n - 32 by unfold upN; rw [if_pos ⟨ha, hb⟩])
      go_enter Tryz.func56, Tryz.ntmps56
      go_wp2
      go_ret
      exact ⟨by rw [R.out]; exact ret_int (by omega), rfl⟩
    · have R := Lib.hid (show (upN n : Nat) = n by unfold upN; rw [if_neg (by omega)])
      go_enter Tryz.func56, Tryz.ntmps56
      go_wp2
      go_ret
      exact ⟨by rw [R.out]; rfl, rfl⟩
  · have R := Lib.hid (show (upN n : Nat) = n by unfold upN; rw [if_neg (by omega)])
    go_enter Tryz.func56, Tryz.ntmps56
    go_wp2
    go_ret
    exact ⟨by rw [R.out]; rfl, rfl⟩

/-- Behind k rounds: the first k bytes are capital, the others as they were. -/
def byteAt (s : ByteArray) (k j : Nat) : UInt8 := if j < k then upB (s.data.toList.getD j 0) else s.data.toList.getD j 0
structure Cells (s : ByteArray) (k b : Nat) (w : World) : Prop where
  out : ∀ j, j < s.size → w.cell? ⟨b, j, none⟩ = some (.int .u8 ((byteAt s k j).toNat : Nat)) ∧ w.frozen? ⟨b, j, none⟩ = false
theorem cells_start (s : ByteArray) (w : World) : Cells s 0 w.heap.size (Lib.bytesWorld w 5 s) := ⟨fun j hj => by
  refine ⟨?_, ?_⟩
  · rw [Lib.bytesWorld_cell w _ s j hj]; rfl
  · simp only [World.frozen?, Lib.bytesWorld_at_new]
    have : j < (Lib.bytesCells w 5 s).size := by simp [Lib.bytesCells]; omega
    simp; omega⟩
theorem upL_get (l : List UInt8) (j : Nat) (h : j < (upL l).length) : (upL l)[j] = upB (l.getD j 0) := by
  have h' : j < l.length := by simpa [upL] using h
  simp [upL, h']
theorem cells_next {s : ByteArray} {k b : Nat} {w : World} (h : Cells s k b w) (hk : k < s.size) : Cells s (k + 1) b (w.setCell ⟨b, k, none⟩ (.int .u8 (upN (byteAt s k k).toNat : Nat))) := ⟨fun j hj => by
  obtain ⟨hc, hf⟩ := h.out j hj
  refine ⟨?_, ?_⟩
  · by_cases e : j = k
    · subst e
      rw [World.cell?_setCell_same _ _ _ hc]
      have h1 : byteAt s (j + 1) j = upB (byteAt s j j) := by unfold byteAt; rw [if_pos (by omega), if_neg (by omega)]
      rw [h1, upB_toNat]
    · rw [World.cell?_setCell_other _ _ _ _ (by simp <;> omega), hc]
      have h1 : byteAt s (k + 1) j = byteAt s k j := by
        unfold byteAt
        by_cases hj2 : j < k
        · rw [if_pos (by omega), if_pos hj2]
        · rw [if_neg (by omega), if_neg hj2]
      rw [h1]
  · rw [World.frozen?_setCell]; exact hf⟩
theorem cells_back {s : ByteArray} {b : Nat} {w : World} (h : Cells s s.size b w) (cap : Nat) :
    (convert 22 9 (.slice (some ⟨b, 0, none⟩) s.size cap)).run Tryz.prog w = .ok (.string ⟨(upL s.data.toList).toArray⟩) w := by
  have hl : (upL s.data.toList).length = s.size := by rw [upL_length]; simp
  have e := run_convert_bytes_back (P := Tryz.prog) w 22 9 5 ⟨b, 0, none⟩ cap (upL s.data.toList) Tryz.underlying22 Tryz.underlying5 Tryz.underlying9 (fun j hj => by
    rw [hl] at hj
    rw [Lib.add_plain, Nat.zero_add, (h.out j hj).1]
    rw [upL_get]
    unfold byteAt
    rw [if_pos hj])
  rw [hl] at e
  exact e

set_option maxRecDepth 100000 in
set_option maxHeartbeats 400000 in
theorem change_any (s : ByteArray) (hs : s.size ≤ 1000000000) (w : World) :
    Calls Tryz.prog 55 #[.string s, .func (Fn.func 56) #[] #[]] w fun e w' => e = .returned (.string ⟨(upL s.data.toList).toArray⟩) ∧ Below w.heap.size w w' := by
  have hcv := fun (w : World) => Lib.run_convert_string_bytes (P := Tryz.prog) w 9 22 5 s Tryz.underlying9 Tryz.underlying22 Tryz.underlying5
  go_enter Tryz.func55, Tryz.ntmps55
  go_wp2_with fail
  clear hcv
  go_loopw [12] (fun i wr => ∃ k : Nat, k ≤ s.size ∧ i = .int .i64 k ∧ Cells s k w.heap.size wr ∧ Below w.heap.size w wr) (fun i _ => s.size - (intOf i).toNat)
  case atStart => exact ⟨0, Nat.zero_le _, rfl, cells_start s w, Joins.below_bytesWorld _ _ _ _ (Nat.le_refl _)⟩
  case round =>
    obtain ⟨k, hk, rfl, HC, hb⟩ := hrel
    by_cases hlt : k < s.size
    · have hc := (HC.out k hlt).1
      have hf := (HC.out k hlt).2
      have HN := cells_next HC hlt
      have U := Lib.hid (up1_any (byteAt s k k).toNat wr (by have := (byteAt s k k).toNat_lt; omega))
      generalize (byteAt s k k).toNat = c at *
      have HNs := hb.setCell (p := ⟨w.heap.size, k, none⟩) (Nat.le_refl _) (.int .u8 (upN c : Nat))
      generalize upN c = d at *
      go_wp2_with (go_at_call 56; refine U.out.mono ?_; rintro e w' ⟨rfl, rfl⟩)
      go_roundw
      case rel => exact ⟨k + 1, by omega, by go_num, HN, HNs⟩
      case measure => simp [intOf]; omega
    · obtain rfl : k = s.size := by omega
      have hcb := cells_back HC
      go_wp2_with fail
      go_ret
      exact ⟨rfl, hb⟩

set_option maxRecDepth 100000 in
theorem upper_any (s : ByteArray) (hs : s.size ≤ 1000000000) (w : World) :
    Calls Tryz.prog 38 #[.string s] w fun e w' => e = .returned (.string ⟨(upL s.data.toList).toArray⟩) ∧ Below w.heap.size w w' := by
  have C := Lib.hid (change_any s hs w)
  go_enter Tryz.func38, Tryz.ntmps38
  go_wp2_with (go_at_call 55; refine C.out.mono ?_; rintro e w' ⟨rfl, hb⟩)
  go_ret
  exact ⟨rfl, hb⟩

end Go.Proofs.YthfopimgdikpgaaGreatDoor

namespace Go.Proofs.YthfopimgdikpgaaGreatDoor
open Go.RowKit Go.Maps

theorem kS (l : List UInt8) (h : l.length ≤ 1000000000) : keyOf Tryz.prog 9 (.string ⟨l.toArray⟩) = some (.string l) := by
  have := WideMaps.keyOf_string_mk (P := Tryz.prog) Tryz.underlying9 (s := ⟨l.toArray⟩) (by unfold maxLen; show l.toArray.size ≤ _; simp; omega)
  simpa using this
theorem eF (n : Nat) (h : n ≤ 255) : plainElem (H := Unit) Tryz.prog 25 (.int .u8 (n : Int)) = some (flgD n, []) :=
  plainElem_int Tryz.underlying25 (by simp [Lit.wf, IntKind.min, IntKind.max, IntKind.signed, IntKind.bits]; omega)

set_option maxRecDepth 100000 in
set_option maxHeartbeats 1000000 in
theorem flags_any (w : World) :
    Calls Tryz.prog 109 #[] w fun e w' => ∃ b D, e = .returned (.map (some b)) ∧ w'.ownsMap Tryz.prog 9 (plainElem Tryz.prog 25) b 5 D ∧ FlagsD D ∧ w.heap.size ≤ b ∧ Below w.heap.size w w' := by
  have hmm := @run_makeMap Tryz.prog
  have N := Lib.hid (fun w1 => names_any w1)
  go_enter Tryz.func109, Tryz.ntmps109
  go_wp2_with fail
  refine (N.out _).mono ?_
  rintro e w1 ⟨rfl, ho, hb⟩
  have hz : (w.alloc (.map #[] 0)).heap.size = w.heap.size + 1 := by simp
  have HF := Lib.hid (((World.ownsMap_made (H := Unit) w Tryz.prog 9 (plainElem Tryz.prog 25)).kept (row := none) ⟨hb.os, hb.tape, hb.output, hb.size, fun k hk _ => hb.block k hk⟩ (by simp)))
  rw [hz] at ho
  have HO := Lib.hid ho
  have hb1 : Below w.heap.size w w1 := below_next ((Below.refl _ _).alloc (Nat.le_refl _) _) hb
  have hs1 : w.heap.size + 1 < w1.heap.size := by have := ho.lt; omega
  clear ho N hb hz
  go_wp2_with (at_range; refine wpList_range_own _ rfl _ 149 rfl 25 9 keyF Tryz.underlying149 _ _ _ _ rfl HO.out ?_; intro w0 hrg0 hg0 hs0)
  go_frame
  have HI := Lib.hid flags_start
  have hk0 := hb1.grown hg0 hb1.size (fun j hj => by cases hj)
  have HF0 := Lib.hid ((HF.out.kept hg0 (by simp)).mono (Nat.zero_le (5 - size nmD)))
  have hr0 : w.heap.size < w1.heap.size := by omega
  clear HF HO hb1
  generalize w1.heap.size = r at *
  clear w1 hg0 hs0
  go_loopw [2] (fun _ wr => ∃ (left : Lit → Bool) (cnt : Nat) (D : DataW Unit), wr.ranges Tryz.prog 25 (plainElem Tryz.prog 9) (w.heap.size + 1) r 5 nmD left cnt ∧ cnt ≤ 5 ∧
      wr.ownsMap Tryz.prog 9 (plainElem Tryz.prog 25) w.heap.size (5 - cnt) D ∧ FlagsInv D left ∧ Below w.heap.size w wr)
    (fun _ wr => wr.rangeLeft (w.heap.size + 1) r)
  case atStart => exact ⟨_, _, _, hrg0, by decide, HF0.out, HI.out, hk0⟩
  case round =>
    obtain ⟨left, cnt, D, hrg, hcs, hown, hI, hb⟩ := hrel
    have HI := Lib.hid hI
    have HW := Lib.hid hown
    clear hI hown hk0 HF0 hrg0
    go_wp2_with (first
      | (at_next; refine wpList_next_ranges_is _ rfl _ rfl 25 9 .u8 keyF Tryz.underlying25 Tryz.underlying9 (w.heap.size + 1) r 5 _ _ _ rfl hrg ?_ ?_)
      | fail)
    · intro hc0 hl0
      go_wp2_with fail
      subst hc0
      have hE := flags_end HI.out hl0
      go_ret
      exact ⟨_, _, rfl, HW.out, hE, Nat.le_refl _, hb⟩
    · intro x c w2 cnt1 hwx hwc hlx hat hrg1 hlt hg1 hs1 hen
      obtain ⟨f, rfl, hf, hc⟩ := nm_found (c := c.data.toList) hat
      have hf16 : f ≤ 16 := by rcases ones_mem.1 hf with rfl | rfl | rfl | rfl | rfl <;> decide
      obtain rfl := str_of hc
      have HI1 := Lib.hid (flags_step hf HI.out)
      have HW1 := Lib.hid (HW.out.kept hg1 (by simp; omega))
      have hb2 := hb.grown hg1 hb.size (fun j hj => by cases hj; omega)
      have hnl : (nameF f).length ≤ 100 := by rcases ones_mem.1 hf with rfl | rfl | rfl | rfl | rfl <;> decide
      have hul : (upL (nameF f)).length ≤ 100 := by rw [upL_length]; exact hnl
      have U := Lib.hid (fun w1 => upper_any ⟨(nameF f).toArray⟩ (by show (nameF f).toArray.size ≤ _; simp; omega) w1)
      have HM := Lib.hid (hrg.left_eq)
      have HG := Lib.hid hrg1
      have HH := Lib.hid hat
      clear hat hc hb hrg1 HW HI hwx hwc hlx
      have hw2 := hb2.size
      go_wp2_with fail
      refine (U.out _).mono ?_
      rintro e w3 ⟨rfl, hb3⟩
      have HW2 := Lib.hid (HW1.out.kept (row := none) ⟨hb3.os, hb3.tape, hb3.output, hb3.size, fun k hk _ => hb3.block k hk⟩ (by simp))
      have HG2 := Lib.hid (HG.out.kept (row := none) ⟨hb3.os, hb3.tape, hb3.output, hb3.size, fun k hk _ => hb3.block k hk⟩ (by simp) (by simp))
      have hb4 := hb2.trans (hb3.mono hw2)
      have hw4 := hb4.size
      clear U HW1 HG hb2 hb3 hw2
      go_wp2_with (at_mapUpdate; refine wpList_mapUpdate_own _ rfl _ _ _ 130 rfl 9 25 keyS Tryz.underlying130 _ w.heap.size _ _ rfl HW2.out (by unfold maxLen; omega) _ _ _ rfl rfl (kS (upL (nameF f)) (by omega)) _ [] (eF f (by omega)) ?_; intro w5 ho5 hg5; go_frame)
      have hrg5 := HG2.out.kept hg5 (by simp) (by simp; omega)
      have hb5 := hb4.grown hg5 hb4.size (fun j hj => by cases hj; exact Nat.le_refl _)
      go_roundw
      case rel => exact ⟨_, cnt1, _, hrg5, by omega, ho5.mono (by omega), HI1.out, hb5⟩
      case measure => rw [hrg5.left_eq, HM.out]; exact hlt
end Go.Proofs.YthfopimgdikpgaaGreatDoor

namespace Go.Proofs.YthfopimgdikpgaaGreatDoor
open Go.RowKit

/-- The flags of some names together. -/
def orF (ps : List (List UInt8)) : Nat := ps.foldl (fun a p => a ||| flagL p) 0
def allF (ps : List (List UInt8)) : Bool := ps.all fun p => flagL p != 0
def namesO (ps : List (List UInt8)) : Option Nat := if allF ps = true then some (orF ps) else none
/-- What stands between the brackets. -/
def innerL (l : List UInt8) : List UInt8 := (l.take (l.length - 1)).drop 1
/-- The flags of a list. -/
def parseF (l : List UInt8) : Option Nat :=
  if l = [40, 41] then some 0 else if 2 ≤ l.length ∧ l[0]? = some 40 ∧ l[l.length - 1]? = some 41 then namesO (splitL 32 (innerL l)) else none

theorem flagL_lt (p : List UInt8) : flagL p < 32 := by
  rcases flagU_is (upL p) with h | ⟨h, _⟩
  · unfold flagL; omega
  · unfold flagL; rcases ones_mem.1 h with e | e | e | e | e <;> omega
theorem orF_snoc (ps : List (List UInt8)) (p : List UInt8) : orF (ps ++ [p]) = orF ps ||| flagL p := by simp [orF]
theorem foldF_lt (ps : List (List UInt8)) : ∀ a, a < 32 → ps.foldl (fun a p => a ||| flagL p) a < 32 := by
  induction ps with
  | nil => intro a h; exact h
  | cons p ps ih => intro a h; exact ih _ (Nat.or_lt_two_pow (n := 5) h (flagL_lt p))
theorem orF_lt (ps : List (List UInt8)) : orF ps < 32 := foldF_lt ps 0 (by decide)
theorem allF_snoc (ps : List (List UInt8)) (p : List UInt8) : allF (ps ++ [p]) = (allF ps && (flagL p != 0)) := by simp [allF]

/-- Where the reference stands: the names pre are read, the next begins at f, byte k is looked at. -/
def RefAt (l : List UInt8) (pre : List (List UInt8)) (f k : Nat) : Prop :=
  allF pre = true ∧ ((k < l.length ∧ (∀ j, f ≤ j → j < k → l[j]? ≠ some 32) ∧ pre ++ splitL 32 ((l.take (l.length - 1)).drop f) = splitL 32 (innerL l)) ∨ (k = l.length ∧ pre = splitL 32 (innerL l)))

theorem refAt_start {l : List UInt8} (h : 2 ≤ l.length) : RefAt l [] 1 1 :=
  ⟨rfl, .inl ⟨by omega, fun j h1 h2 => by omega, rfl⟩⟩
theorem refAt_skip {l : List UInt8} {pre : List (List UInt8)} {f k : Nat} (h : RefAt l pre f k) (hk : k + 1 < l.length) (hc : l[k]? ≠ some 32) : RefAt l pre f (k + 1) := by
  obtain ⟨ha, h | h⟩ := h
  · refine ⟨ha, .inl ⟨hk, fun j h1 h2 => ?_, h.2.2⟩⟩
    by_cases e : j = k
    · subst e; exact hc
    · exact h.2.1 j h1 (by omega)
  · omega
/-- The name that ends at k. -/
def segL (l : List UInt8) (f k : Nat) : List UInt8 := (l.drop f).take (k - f)
theorem seg_no {l : List UInt8} {f k : Nat} (h : ∀ j, f ≤ j → j < k → l[j]? ≠ some 32) : (32 : UInt8) ∉ segL l f k := by
  intro hm
  obtain ⟨i, hi⟩ := List.getElem?_of_mem hm
  unfold segL at hi
  have hlt := (List.getElem?_eq_some_iff.1 hi).1
  rw [List.length_take] at hlt
  rw [List.getElem?_take_of_lt (by omega), List.getElem?_drop] at hi
  exact h (f + i) (by omega) (by omega) hi
theorem seg_split {l : List UInt8} {f k : Nat} (hf : f ≤ k) (hk : k + 1 < l.length) (hc : l[k]? = some 32) :
    (l.take (l.length - 1)).drop f = segL l f k ++ 32 :: (l.take (l.length - 1)).drop (k + 1) := by
  have hlen : k < (l.take (l.length - 1)).length := by rw [List.length_take]; omega
  have h1 : ((l.take (l.length - 1)).drop f).take (k - f) = segL l f k := by
    unfold segL
    rw [List.drop_take, List.take_take]
    congr 1
    omega
  have h2 : ((l.take (l.length - 1)).drop f).drop (k - f) = (l.take (l.length - 1)).drop k := by
    rw [List.drop_drop]
    congr 1
    omega
  have h3 : (l.take (l.length - 1))[k] = 32 := by
    have : (l.take (l.length - 1))[k]? = some 32 := by rw [List.getElem?_take_of_lt (by omega)]; exact hc
    rw [List.getElem?_eq_getElem hlen] at this
    exact Option.some.inj this
  rw [← List.take_append_drop (k - f) ((l.take (l.length - 1)).drop f), h1, h2, List.drop_eq_getElem_cons hlen, h3]
theorem refAt_next {l : List UInt8} {pre : List (List UInt8)} {f k : Nat} (h : RefAt l pre f k) (hf : f ≤ k) (hk : k < l.length) (hc : k + 1 < l.length → l[k]? = some 32) (h0 : flagL (segL l f k) ≠ 0) :
    RefAt l (pre ++ [segL l f k]) (k + 1) (k + 1) := by
  obtain ⟨ha, h | h⟩ := h
  · refine ⟨by rw [allF_snoc, ha]; simpa using h0, ?_⟩
    by_cases hl : k + 1 < l.length
    · refine .inl ⟨hl, fun j h1 h2 => by omega, ?_⟩
      rw [List.append_assoc, ← h.2.2, seg_split hf hl (hc hl), splitL_at (seg_no h.2.1)]
      rfl
    · have hk1 : k = l.length - 1 := by omega
      refine .inr ⟨by omega, ?_⟩
      have hs : (l.take (l.length - 1)).drop f = segL l f k := by
        unfold segL
        rw [List.drop_take, hk1]
      rw [← h.2.2, hs, splitL_none (seg_no h.2.1)]
  · omega
theorem refAt_bad {l : List UInt8} {pre : List (List UInt8)} {f k : Nat} (h : RefAt l pre f k) (hf : f ≤ k) (hk : k < l.length) (hc : k + 1 < l.length → l[k]? = some 32) (h0 : flagL (segL l f k) = 0) :
    namesO (splitL 32 (innerL l)) = none := by
  have key : ∃ rest, splitL 32 (innerL l) = pre ++ segL l f k :: rest := by
    obtain ⟨ha, h | h⟩ := h
    · by_cases hl : k + 1 < l.length
      · exact ⟨_, by rw [← h.2.2, seg_split hf hl (hc hl), splitL_at (seg_no h.2.1)]⟩
      · have hs : (l.take (l.length - 1)).drop f = segL l f k := by
          unfold segL
          rw [List.drop_take, show k = l.length - 1 by omega]
        exact ⟨[], by rw [← h.2.2, hs, splitL_none (seg_no h.2.1)]⟩
    · omega
  obtain ⟨rest, e⟩ := key
  unfold namesO
  rw [if_neg]
  rw [e]
  simp [allF, h0]
theorem refAt_end {l : List UInt8} {pre : List (List UInt8)} {f k : Nat} (h : RefAt l pre f k) (hk : l.length ≤ k) : namesO (splitL 32 (innerL l)) = some (orF pre) := by
  obtain ⟨ha, h | h⟩ := h
  · omega
  · unfold namesO
    rw [← h.2, if_pos ha]
end Go.Proofs.YthfopimgdikpgaaGreatDoor

namespace Go.Proofs.YthfopimgdikpgaaGreatDoor
open Go.RowKit

/-- Names with a space between each two. -/
def spL (ps : List (List UInt8)) : List UInt8 := Lib.join ps [32]
/-- The list of some flags. -/
def listL (f : Nat) : List UInt8 := 40 :: (spL ((eachL f).map nameF) ++ [41])

theorem spL_nil : spL [] = [] := rfl
theorem spL_one (p : List UInt8) : spL [p] = p := Lib.join_one p _
theorem spL_snoc {ps : List (List UInt8)} (h : ps ≠ []) (p : List UInt8) : spL (ps ++ [p]) = spL ps ++ 32 :: p := by
  cases ps with
  | nil => exact absurd rfl h
  | cons x r =>
    unfold spL
    rw [List.cons_append, Lib.join_cons, Lib.join_cons]
    simp [Lib.joinTail]
theorem spL_cons (p q : List UInt8) (ps : List (List UInt8)) : spL (p :: q :: ps) = p ++ 32 :: spL (q :: ps) := by
  unfold spL
  rw [Lib.join_cons, Lib.join_cons]
  simp [Lib.joinTail]
theorem split_spL : ∀ (ps : List (List UInt8)), ps ≠ [] → (∀ p ∈ ps, (32 : UInt8) ∉ p) → splitL 32 (spL ps) = ps
  | [], h, _ => absurd rfl h
  | [p], _, h => by rw [spL_one]; exact splitL_none (h p (by simp))
  | p :: q :: ps, _, h => by
    rw [spL_cons, splitL_at (h p (by simp)), split_spL (q :: ps) (by simp) (fun x hx => h x (by simp [hx]))]

/-- What stands between brackets is read part by part. -/
theorem parse_list {ps : List (List UInt8)} (h : ps ≠ []) (hs : ∀ p ∈ ps, (32 : UInt8) ∉ p) (h0 : ∃ p ∈ ps, p ≠ []) : parseF (40 :: (spL ps ++ [41])) = namesO ps := by
  have hl : (40 :: (spL ps ++ [41])).length = (spL ps).length + 2 := by simp
  have hne : spL ps ≠ [] := by
    intro e
    have := split_spL ps h hs
    rw [e] at this
    obtain ⟨p, hp, hp0⟩ := h0
    rw [← this] at hp
    simp [splitL] at hp
    exact hp0 hp
  have hi : innerL (40 :: (spL ps ++ [41])) = spL ps := by
    unfold innerL
    rw [hl]
    simp
  unfold parseF
  rw [if_neg, if_pos, hi, split_spL ps h hs]
  · refine ⟨by rw [hl]; omega, rfl, ?_⟩
    rw [hl, show (spL ps).length + 2 - 1 = (spL ps).length + 1 by omega, List.getElem?_cons_succ]
    simp
  · intro e
    injection e with _ e
    cases hx : spL ps with
    | nil => exact hne hx
    | cons a r =>
      rw [hx] at e
      simp at e

theorem name_nosp {f : Nat} (hf : f ∈ ones) : (32 : UInt8) ∉ nameF f := by
  rcases ones_mem.1 hf with rfl | rfl | rfl | rfl | rfl <;> decide
theorem name_ne {f : Nat} (hf : f ∈ ones) : nameF f ≠ [] := by
  rcases ones_mem.1 hf with rfl | rfl | rfl | rfl | rfl <;> decide
theorem name_len (f : Nat) : (nameF f).length ≤ 9 := by
  unfold nameF
  repeat (split; decide)
  decide
theorem flagL_name {f : Nat} (hf : f ∈ ones) : flagL (nameF f) = f := flagU_name hf
theorem eachL_ones {f x : Nat} (h : x ∈ eachL f) : x ∈ ones := (List.mem_filter.1 h).1
/-- The flags of names are the flags. -/
theorem names_flags (xs : List Nat) (h : ∀ x ∈ xs, x ∈ ones) : namesO (xs.map nameF) = some (xs.foldl (fun a x => a ||| x) 0) := by
  have ha : allF (xs.map nameF) = true := by
    unfold allF
    rw [List.all_map, List.all_eq_true]
    intro x hx
    have := h x hx
    show (flagL (nameF x) != 0) = true
    rw [flagL_name this]
    have : x ≠ 0 := by rintro rfl; simp [ones] at this
    simpa using this
  have ho : ∀ (ys : List Nat) (a : Nat), (∀ x ∈ ys, x ∈ ones) → (ys.map nameF).foldl (fun a p => a ||| flagL p) a = ys.foldl (fun a x => a ||| x) a := by
    intro ys
    induction ys with
    | nil => intro a _; rfl
    | cons y ys ih =>
      intro a hy
      show List.foldl _ (a ||| flagL (nameF y)) (ys.map nameF) = List.foldl _ (a ||| y) ys
      rw [flagL_name (hy y (by simp))]
      exact ih _ (fun x hx => hy x (by simp [hx]))
  unfold namesO
  rw [if_pos ha]
  unfold orF
  rw [ho xs 0 h]
theorem each_or : ∀ f : Fin 256, (eachL f.val).foldl (fun a x => a ||| x) 0 = f.val &&& 31 := by decide +kernel
theorem each_nil : ∀ f : Fin 256, eachL f.val = [] ↔ f.val &&& 31 = 0 := by decide +kernel
/-- What is printed is read again. -/
theorem parse_printed (f : Nat) (hf : f < 256) : parseF (listL f) = some (f &&& 31) := by
  by_cases h : eachL f = []
  · have h0 := (each_nil ⟨f, hf⟩).1 h
    unfold listL
    rw [h]
    rw [show f &&& 31 = 0 from h0]
    decide
  · unfold listL
    rw [parse_list (by simpa using h) (fun p hp => by
      obtain ⟨x, hx, rfl⟩ := List.mem_map.1 hp
      exact name_nosp (eachL_ones hx)), names_flags _ (fun x hx => eachL_ones hx)]
    · rw [show (eachL f).foldl (fun a x => a ||| x) 0 = f &&& 31 from each_or ⟨f, hf⟩]
    · obtain ⟨x, hx⟩ := List.exists_mem_of_ne_nil _ h
      exact ⟨nameF x, List.mem_map.2 ⟨x, hx, rfl⟩, name_ne (eachL_ones hx)⟩
end Go.Proofs.YthfopimgdikpgaaGreatDoor

namespace Go.Proofs.YthfopimgdikpgaaGreatDoor
open Go.RowKit

/-- Behind the opening bracket; and before the closing one. -/
def cutA (l : List UInt8) : List UInt8 := Lib.trimPrefix l [40]
def cutB (l : List UInt8) : List UInt8 := Lib.trimSuffix (cutA l) [41]
def hasA (l : List UInt8) : Bool := Lib.hasPrefix l [40]
def hasB (l : List UInt8) : Bool := Lib.hasSuffix (cutA l) [41]

theorem cutA_len (l : List UInt8) : (cutA l).length ≤ l.length := by
  unfold cutA Lib.trimPrefix
  split
  · rw [List.length_drop]; omega
  · exact Nat.le_refl _
theorem cutB_len (l : List UInt8) : (cutB l).length ≤ l.length := by
  have := cutA_len l
  unfold cutB Lib.trimSuffix
  split
  · rw [List.length_take]; omega
  · exact this
theorem cut_all {l : List UInt8} (hA : hasA l = true) (hB : hasB l = true) : l = 40 :: (cutB l ++ [41]) := by
  have h1 : [40] <+: l := by rw [← List.isPrefixOf_iff_prefix]; exact hA
  obtain ⟨r, rfl⟩ := h1
  have e1 : cutA ([40] ++ r) = r := by unfold cutA Lib.trimPrefix; unfold hasA at hA; rw [if_pos hA]; rfl
  unfold hasB at hB
  unfold cutB
  rw [e1] at hB ⊢
  have h2 : [41] <:+ r := by rw [← List.isSuffixOf_iff_suffix]; exact hB
  unfold Lib.trimSuffix
  rw [if_pos hB]
  obtain ⟨t, rfl⟩ := h2
  simp
theorem cut_no {l : List UInt8} (h : hasA l = false ∨ hasB l = false) : parseF l = none := by
  have key : ∀ t, l ≠ 40 :: (t ++ [41]) := by
    rintro t rfl
    have hA : hasA (40 :: (t ++ [41])) = true := by
      unfold hasA Lib.hasPrefix
      rw [List.isPrefixOf_iff_prefix]
      exact ⟨_, rfl⟩
    have e1 : cutA (40 :: (t ++ [41])) = t ++ [41] := by unfold cutA Lib.trimPrefix; unfold hasA at hA; rw [if_pos hA]; rfl
    have hB : hasB (40 :: (t ++ [41])) = true := by
      unfold hasB
      rw [e1]
      unfold Lib.hasSuffix
      rw [List.isSuffixOf_iff_suffix]
      exact ⟨_, rfl⟩
    rcases h with h | h
    · rw [hA] at h; cases h
    · rw [hB] at h; cases h
  unfold parseF
  rw [if_neg (show ¬ l = [40, 41] from key []), if_neg]
  rintro ⟨h2, h0, h1⟩
  cases l with
  | nil => simp at h2
  | cons a r =>
    obtain rfl : a = 40 := by simpa using h0
    have hr : r ≠ [] := by rintro rfl; simp at h2
    have hlast : r.getLast hr = 41 := by
      have e : (40 :: r)[(40 :: r).length - 1]? = r[r.length - 1]? := by
        rw [List.length_cons, Nat.add_sub_cancel]
        obtain ⟨n, hn⟩ : ∃ n, r.length = n + 1 := ⟨r.length - 1, by have := List.length_pos_iff.2 hr; omega⟩
        rw [hn, List.getElem?_cons_succ]
        rfl
      rw [e, ← List.getLast?_eq_getElem?, List.getLast?_eq_some_getLast hr] at h1
      exact Option.some.inj h1
    exact key (r.dropLast) (by rw [← hlast, List.dropLast_concat_getLast])
theorem cut_empty {l : List UInt8} (hA : hasA l = true) (hB : hasB l = true) (h : cutB l = []) : parseF l = some 0 := by
  have := cut_all hA hB
  rw [h] at this
  rw [this]
  rfl
theorem cut_some {l : List UInt8} (hA : hasA l = true) (hB : hasB l = true) (h : cutB l ≠ []) : parseF l = namesO (splitL 32 (cutB l)) := by
  have e := cut_all hA hB
  generalize cutB l = t at *
  subst e
  have hl : (40 :: (t ++ [41])).length = t.length + 2 := by simp
  unfold parseF
  rw [if_neg, if_pos]
  · congr 2
    unfold innerL
    rw [hl]
    simp
  · refine ⟨by rw [hl]; omega, rfl, ?_⟩
    rw [hl, show t.length + 2 - 1 = t.length + 1 by omega, List.getElem?_cons_succ]
    simp
  · intro e
    injection e with _ e
    cases t with
    | nil => exact h rfl
    | cons a r => simp at e
end Go.Proofs.YthfopimgdikpgaaGreatDoor

namespace Go.Proofs.YthfopimgdikpgaaGreatDoor
open Go.RowKit

/-- '[]byte{c}' read back as a string. -/
theorem byte_back (w : World) (c : UInt8) (x : Int) (hx : x = c.toNat) : (convert 22 9 (.slice (some ⟨w.heap.size, 0, none⟩) 1 1)).run Tryz.prog (w.alloc (.cells #[.int .u8 x] 5)) = .ok (.string ⟨#[c]⟩) (w.alloc (.cells #[.int .u8 x] 5)) := by
  subst hx
  exact run_convert_bytes_back (P := Tryz.prog) (w.alloc (.cells #[.int .u8 c.toNat] 5)) 22 9 5 ⟨w.heap.size, 0, none⟩ 1 [c] Tryz.underlying22 Tryz.underlying5 Tryz.underlying9 (fun j hj => by
    obtain rfl : j = 0 := by simpa using hj
    rw [Lib.add_plain, World.cell?_alloc_new]
    rfl)
theorem up_snoc (s : ByteArray) (k : Nat) (h : k < s.size) : Value.string (ByteArray.mk (upL (s.data.toList.take k)).toArray ++ ByteArray.mk #[upB s[k]]) = Value.string ⟨(upL (s.data.toList.take (k + 1))).toArray⟩ := by
  congr 1
  apply ByteArray.ext
  rw [take_snocB s k h]
  simp [upL, ByteArray.data_append]

set_option maxRecDepth 100000 in
set_option maxHeartbeats 400000 in
theorem refUpper_any (s : ByteArray) (hs : s.size ≤ 1000000000) (w : World) :
    Calls Tryz.prog 24 #[.string s] w fun e w' => e = .returned (.string ⟨(upL s.data.toList).toArray⟩) ∧ Below w.heap.size w w' := by
  go_enter Tryz.func24, Tryz.ntmps24
  go_wp2_with fail
  go_loopw [3, 4] (fun o i wr => ∃ k : Nat, k ≤ s.size ∧ i = .int .i64 k ∧ o = .string ⟨(upL (s.data.toList.take k)).toArray⟩ ∧ Below w.heap.size w wr) (fun _ i _ => s.size - (intOf i).toNat)
  case atStart => exact ⟨0, Nat.zero_le _, rfl, rfl, Below.refl _ _⟩
  case round =>
    obtain ⟨k, hk, rfl, rfl, hb⟩ := hrel
    by_cases hlt : k < s.size
    · have hlen : (upL (s.data.toList.take k)).length ≤ k := by rw [upL_length]; exact List.length_take_le _ _
      have hn : s[k].toNat ≤ 255 := by have := s[k].toNat_lt; omega
      by_cases ha : 97 ≤ s[k].toNat
      · by_cases hz : s[k].toNat ≤ 122
        · have hcv := byte_back wr (upB s[k]) ((s[k].toNat : Int) - 32) (by rw [upB_toNat]; unfold upN; rw [if_pos ⟨ha, hz⟩]; omega)
          go_wp2_with fail
          go_roundw
          case rel => exact ⟨k + 1, by omega, by go_num, up_snoc s k hlt, (hb.alloc hb.size _)⟩
          case measure => simp [intOf]; omega
        · have hcv := byte_back wr (upB s[k]) (s[k].toNat : Int) (by rw [upB_toNat]; unfold upN; rw [if_neg (by omega)])
          go_wp2_with fail
          go_roundw
          case rel => exact ⟨k + 1, by omega, by go_num, up_snoc s k hlt, (hb.alloc hb.size _)⟩
          case measure => simp [intOf]; omega
      · have hcv := byte_back wr (upB s[k]) (s[k].toNat : Int) (by rw [upB_toNat]; unfold upN; rw [if_neg (by omega)])
        go_wp2_with fail
        go_roundw
        case rel => exact ⟨k + 1, by omega, by go_num, up_snoc s k hlt, (hb.alloc hb.size _)⟩
        case measure => simp [intOf]; omega
    · obtain rfl : k = s.size := by omega
      go_wp2_with fail
      go_ret
      exact ⟨by rw [take_all]; rfl, hb⟩
end Go.Proofs.YthfopimgdikpgaaGreatDoor

namespace Go.Proofs.YthfopimgdikpgaaGreatDoor
open Go.RowKit

def verbB (k : Nat) : List UInt8 :=
  if k = 1 then [78, 79, 79, 80] else if k = 2 then [76, 79, 71, 79, 85, 84] else if k = 3 then [67, 76, 79, 83, 69] else if k = 4 then [69, 88, 80, 85, 78, 71, 69]
  else if k = 5 then [83, 69, 76, 69, 67, 84] else if k = 6 then [65, 80, 80, 69, 78, 68] else if k = 7 then [70, 69, 84, 67, 72] else if k = 8 then [83, 84, 79, 82, 69] else []
def kindU (l : List UInt8) : Nat :=
  if l = verbB 1 then 1 else if l = verbB 2 then 2 else if l = verbB 3 then 3 else if l = verbB 4 then 4 else if l = verbB 5 then 5 else if l = verbB 6 then 6 else if l = verbB 7 then 7 else if l = verbB 8 then 8 else 0
def kindL (l : List UInt8) : Nat := kindU (upL l)
theorem kindU_le (l : List UInt8) : kindU l ≤ 8 := by
  unfold kindU
  repeat' split
  all_goals omega
theorem kindL_le (l : List UInt8) : kindL l ≤ 8 := kindU_le _
def itemB (k : Nat) : List UInt8 :=
  if k = 1 then [70, 76, 65, 71, 83] else if k = 2 then [85, 73, 68] else if k = 4 then [82, 70, 67, 56, 50, 50, 46, 83, 73, 90, 69] else if k = 8 then [66, 79, 68, 89, 46, 80, 69, 69, 75, 91, 93]
  else if k = 16 then [66, 79, 68, 89, 91, 93] else []
def itemU (l : List UInt8) : Nat :=
  if l = itemB 1 then 1 else if l = itemB 2 then 2 else if l = itemB 4 then 4 else if l = itemB 8 then 8 else if l = itemB 16 then 16 else 0
def itemL (l : List UInt8) : Nat := itemU (upL l)
/-- ".SILENT" -/
def silB : List UInt8 := [46, 83, 73, 76, 69, 78, 84]
def modeU (l : List UInt8) : Option Nat :=
  if l = [70, 76, 65, 71, 83] then some 0 else if l = [43, 70, 76, 65, 71, 83] then some 1 else if l = [45, 70, 76, 65, 71, 83] then some 2 else none
def cutS (l : List UInt8) : List UInt8 × Bool := (Lib.trimSuffix l silB, Lib.hasSuffix l silB)
def modeL (l : List UInt8) : Option (Nat × Bool) := (modeU (cutS (upL l)).1).map fun m => (m, (cutS (upL l)).2)
def orI (ps : List (List UInt8)) : Nat := ps.foldl (fun a p => a ||| itemL p) 0
def itemsO (ps : List (List UInt8)) : Option Nat := if ps ≠ [] ∧ (ps.all fun p => itemL p != 0) = true then some (orI ps) else none

/-- The verbs as the program has them: "" at 0. -/
def verbLs : List (List UInt8) := [[], verbB 1, verbB 2, verbB 3, verbB 4, verbB 5, verbB 6, verbB 7, verbB 8]
def verbZ (k : Int) : List UInt8 := if 1 ≤ k ∧ k ≤ 8 then verbB k.toNat else []
def idxI (ls : List (List UInt8)) (x : List UInt8) : Int := if x ∈ ls then (ls.idxOf x : Int) else -1
theorem verb_inj {j k : Nat} (hj : 1 ≤ j ∧ j ≤ 8) (hk : 1 ≤ k ∧ k ≤ 8) (h : verbB j = verbB k) : j = k := by
  have h1 : j = 1 ∨ j = 2 ∨ j = 3 ∨ j = 4 ∨ j = 5 ∨ j = 6 ∨ j = 7 ∨ j = 8 := by omega
  have h2 : k = 1 ∨ k = 2 ∨ k = 3 ∨ k = 4 ∨ k = 5 ∨ k = 6 ∨ k = 7 ∨ k = 8 := by omega
  rcases h1 with rfl | rfl | rfl | rfl | rfl | rfl | rfl | rfl <;> rcases h2 with rfl | rfl | rfl | rfl | rfl | rfl | rfl | rfl <;> first | rfl | (exfalso; revert h; decide)
theorem kindU_verb {k : Nat} (hk : 1 ≤ k ∧ k ≤ 8) : kindU (verbB k) = k := by
  have h2 : k = 1 ∨ k = 2 ∨ k = 3 ∨ k = 4 ∨ k = 5 ∨ k = 6 ∨ k = 7 ∨ k = 8 := by omega
  rcases h2 with rfl | rfl | rfl | rfl | rfl | rfl | rfl | rfl <;> decide
theorem kindU_is (l : List UInt8) : kindU l = 0 ∨ (1 ≤ kindU l ∧ kindU l ≤ 8 ∧ l = verbB (kindU l)) := by
  unfold kindU
  repeat' split
  all_goals first | exact .inl rfl | (rename_i h; exact .inr ⟨by omega, by omega, h⟩)
theorem kindU_eq {l : List UInt8} {k : Nat} (hk : 1 ≤ k ∧ k ≤ 8) : kindU l = k ↔ l = verbB k := by
  constructor
  · intro h
    rcases kindU_is l with h0 | ⟨_, _, h1⟩
    · omega
    · rw [h] at h1; exact h1
  · rintro rfl; exact kindU_verb hk
/-- The place of a verb is its kind. -/
theorem idx_kind (l : List UInt8) : max (idxI verbLs l) 0 = (kindU l : Int) := by
  unfold idxI
  rcases kindU_is l with h0 | ⟨h1, h8, he⟩
  · rw [h0]
    by_cases hm : l ∈ verbLs
    · rw [if_pos hm]
      simp only [verbLs, List.mem_cons, List.not_mem_nil, or_false] at hm
      rcases hm with rfl | hm
      · rfl
      · exfalso
        rcases hm with rfl | rfl | rfl | rfl | rfl | rfl | rfl | rfl <;> revert h0 <;> decide
    · rw [if_neg hm]; decide
  · generalize kindU l = k at *
    subst he
    have h2 : k = 1 ∨ k = 2 ∨ k = 3 ∨ k = 4 ∨ k = 5 ∨ k = 6 ∨ k = 7 ∨ k = 8 := by omega
    rcases h2 with rfl | rfl | rfl | rfl | rfl | rfl | rfl | rfl <;> decide

def itms : List Nat := [1, 2, 4, 8, 16]
theorem itms_mem {x : Nat} : x ∈ itms ↔ x = 1 ∨ x = 2 ∨ x = 4 ∨ x = 8 ∨ x = 16 := by simp [itms]
theorem itemU_name {f : Nat} (hf : f ∈ itms) : itemU (itemB f) = f := by
  rcases itms_mem.1 hf with rfl | rfl | rfl | rfl | rfl <;> decide
theorem itemU_is (l : List UInt8) : itemU l = 0 ∨ (itemU l ∈ itms ∧ l = itemB (itemU l)) := by
  unfold itemU
  repeat' split
  all_goals first | exact .inl rfl | (rename_i h; exact .inr ⟨by decide, h⟩)
theorem itemU_eq {l : List UInt8} {f : Nat} (hf : f ∈ itms) : itemU l = f ↔ l = itemB f := by
  constructor
  · intro h
    rcases itemU_is l with h0 | ⟨_, h1⟩
    · rw [h0] at h; subst h; simp [itms] at hf
    · rw [h] at h1; exact h1
  · rintro rfl; exact itemU_name hf
theorem itemU_le (l : List UInt8) : itemU l ≤ 16 := by
  rcases itemU_is l with h | ⟨h, _⟩
  · omega
  · rcases itms_mem.1 h with e | e | e | e | e <;> omega
theorem itemU_lt (l : List UInt8) : itemU l < 32 := by have := itemU_le l; omega
theorem foldI_lt (ps : List (List UInt8)) : ∀ a, a < 32 → ps.foldl (fun a p => a ||| itemL p) a < 32 := by
  induction ps with
  | nil => intro a h; exact h
  | cons p ps ih => intro a h; exact ih _ (Nat.or_lt_two_pow (n := 5) h (itemU_lt _))
theorem orI_lt (ps : List (List UInt8)) : orI ps < 32 := foldI_lt ps 0 (by decide)
end Go.Proofs.YthfopimgdikpgaaGreatDoor
