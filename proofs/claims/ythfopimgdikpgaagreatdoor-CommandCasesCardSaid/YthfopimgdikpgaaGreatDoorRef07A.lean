/- The reference of layer 7: Verb, Kind, ItemName, Item, flag. -/
import Derived.Test.YthfopimgdikpgaaGreatDoorVerbs
import Derived.Test.YthfopimgdikpgaaGreatDoorGt
import Derived.Test.YthfopimgdikpgaaGreatDoorRefFName
namespace Go.Proofs.YthfopimgdikpgaaGreatDoor
open Go.RowKit

set_option maxRecDepth 100000 in
set_option maxHeartbeats 1000000 in
theorem refVerb_any (k : Int) (h1 : -9223372036854775808 ≤ k) (h2 : k ≤ 9223372036854775807) (w : World) :
    Calls Tryz.prog 20 #[.int .i64 k] w fun e w' => e = .returned (.string ⟨(verbZ k).toArray⟩) ∧ Below w.heap.size w w' := by
  by_cases hlt : k < 1
  · have d1 : decide (k < 1) = true := by simpa using hlt
    have R := Lib.hid (show verbZ k = [] by unfold verbZ; rw [if_neg (by omega)])
    clear hlt
    go_enter Tryz.func20, Tryz.ntmps20
    go_wp2_with fail
    go_ret
    exact ⟨by rw [R.out]; rfl, Below.refl _ _⟩
  · have d1 : decide (k < 1) = false := by simpa using hlt
    by_cases h9 : 8 < k
    · have d2 : decide ((8 : Int) < k) = true := by simpa using h9
      have R := Lib.hid (show verbZ k = [] by unfold verbZ; rw [if_neg (by omega)])
      clear hlt
      go_enter Tryz.func20, Tryz.ntmps20
      go_wp2_with fail
      go_ret
      exact ⟨by rw [R.out]; rfl, Below.refl _ _⟩
    · have hk : k = 1 ∨ k = 2 ∨ k = 3 ∨ k = 4 ∨ k = 5 ∨ k = 6 ∨ k = 7 ∨ k = 8 := by omega
      clear d1 hlt h9 h1 h2
      rcases hk with rfl | rfl | rfl | rfl | rfl | rfl | rfl | rfl
      all_goals
        go_enter Tryz.func20, Tryz.ntmps20
        go_wp2_with fail
        go_ret
        exact ⟨rfl, below_al _ _⟩

theorem refVerb_is (k : Nat) (hk : 1 ≤ k ∧ k ≤ 8) (w : World) :
    Calls Tryz.prog 20 #[.int .i64 (k : Int)] w fun e w' => e = .returned (.string ⟨(verbB k).toArray⟩) ∧ Below w.heap.size w w' := by
  have h := refVerb_any (k : Int) (by omega) (by omega) w
  rw [show verbZ (k : Int) = verbB k by unfold verbZ; rw [if_pos (by omega), Int.toNat_natCast]] at h
  exact h

set_option maxRecDepth 100000 in
set_option maxHeartbeats 1000000 in
theorem refKind_any (s : ByteArray) (hs : s.size ≤ 1000000000) (w : World) :
    Calls Tryz.prog 21 #[.string s] w fun e w' => e = .returned (.int .i64 (kindL s.data.toList : Nat)) ∧ Below w.heap.size w w' := by
  have U := Lib.hid (fun w1 => refUpper_any s hs w1)
  unfold kindL
  generalize upL s.data.toList = y at *
  go_enter Tryz.func21, Tryz.ntmps21
  go_wp2_with fail
  go_loopw [3] (fun i wr => ∃ f : Nat, 1 ≤ f ∧ f ≤ 9 ∧ i = .int .i64 f ∧ Hid (∀ g, 1 ≤ g → g < f → y ≠ verbB g) ∧ Below w.heap.size w wr) (fun i _ => 32 - (intOf i).toNat)
  case atStart => exact ⟨1, by decide, by decide, rfl, Lib.hid (fun g hg h => by omega), Below.refl _ _⟩
  case round =>
    obtain ⟨f, hf1, hf9, rfl, hn, hb⟩ := hrel
    by_cases hf : f = 9
    · subst hf
      have HZ := Lib.hid (show kindU y = 0 by
        rcases kindU_is y with h | ⟨h1, h2, h3⟩
        · exact h
        · exact absurd h3 (hn.out _ h1 (by omega)))
      go_wp2_with fail
      go_ret
      exact ⟨by rw [HZ.out]; rfl, hb⟩
    · have hf8 : f ≤ 8 := by omega
      have V := Lib.hid (fun w1 => refVerb_is f ⟨hf1, hf8⟩ w1)
      obtain ⟨x, hx⟩ : ∃ x, verbB f = x := ⟨_, rfl⟩
      rw [hx] at V
      have HX := Lib.hid hx
      clear hx hf
      by_cases he : x = y
      · have hb1 : (x == y) = true := by simpa using he
        have HE := Lib.hid (show kindU y = f from (kindU_eq ⟨hf1, hf8⟩).2 (by rw [HX.out, he]))
        clear he
        go_wp2_with fail
        refine (V.out _).mono ?_
        rintro e w1 ⟨rfl, h⟩
        replace hb := hb.trans (h.mono hb.size)
        clear h
        go_wp2_with fail
        refine (U.out _).mono ?_
        rintro e w2 ⟨rfl, h⟩
        replace hb := hb.trans (h.mono hb.size)
        clear h
        go_wp2_with fail
        go_ret
        exact ⟨by rw [HE.out]; rfl, hb⟩
      · have hb1 : (x == y) = false := by simpa using he
        have HE := Lib.hid he
        clear he
        go_wp2_with fail
        refine (V.out _).mono ?_
        rintro e w1 ⟨rfl, h⟩
        replace hb := hb.trans (h.mono hb.size)
        clear h
        go_wp2_with fail
        refine (U.out _).mono ?_
        rintro e w2 ⟨rfl, h⟩
        replace hb := hb.trans (h.mono hb.size)
        clear h
        go_wp2_with fail
        go_roundw
        case rel => exact ⟨f + 1, by omega, by omega, by go_num, Lib.hid (fun g hg hlt e => by
          rcases Nat.lt_succ_iff_lt_or_eq.1 hlt with h | rfl
          · exact hn.out g hg h e
          · exact HE.out (HX.out.symm.trans e.symm)), hb⟩
        case measure => simp [intOf]; omega

set_option maxRecDepth 100000 in
theorem itemName_any (n : Nat) (h : n ∈ itms) (w : World) :
    Calls Tryz.prog 40 #[.int .i64 (n : Int)] w fun e w' => e = .returned (.string ⟨(itemB n).toArray⟩) ∧ w = w' := by
  rcases itms_mem.1 h with rfl | rfl | rfl | rfl | rfl
  all_goals
    go_enter Tryz.func40, Tryz.ntmps40
    go_wp2_with fail
    go_ret
    exact ⟨rfl, rfl⟩

def cntI : List Nat := [1, 2, 4, 8, 16, 32]
theorem cntI_mem {x : Nat} : x ∈ cntI ↔ x = 1 ∨ x = 2 ∨ x = 4 ∨ x = 8 ∨ x = 16 ∨ x = 32 := by simp [cntI]

set_option maxRecDepth 100000 in
set_option maxHeartbeats 1000000 in
theorem refItem_any (s : ByteArray) (hs : s.size ≤ 1000000000) (w : World) :
    Calls Tryz.prog 22 #[.string s] w fun e w' => e = .returned (.int .i64 (itemL s.data.toList : Nat)) ∧ Below w.heap.size w w' := by
  have U := Lib.hid (fun w1 => refUpper_any s hs w1)
  unfold itemL
  generalize upL s.data.toList = y at *
  go_enter Tryz.func22, Tryz.ntmps22
  go_wp2_with fail
  go_loopw [3] (fun i wr => ∃ f : Nat, f ∈ cntI ∧ i = .int .i64 f ∧ Hid (∀ g, g ∈ itms → g < f → y ≠ itemB g) ∧ Below w.heap.size w wr) (fun i _ => 32 - (intOf i).toNat)
  case atStart => exact ⟨1, by decide, rfl, Lib.hid (fun g hg h => by rcases itms_mem.1 hg with rfl | rfl | rfl | rfl | rfl <;> omega), Below.refl _ _⟩
  case round =>
    obtain ⟨f, hf, rfl, hn, hb⟩ := hrel
    by_cases hf32 : f = 32
    · subst hf32
      have HZ := Lib.hid (show itemU y = 0 by
        rcases itemU_is y with h | ⟨h1, h2⟩
        · exact h
        · exact absurd h2 (hn.out _ h1 (by rcases itms_mem.1 h1 with e | e | e | e | e <;> omega)))
      go_wp2_with fail
      go_ret
      exact ⟨by rw [HZ.out]; rfl, hb⟩
    · have ho : f ∈ itms := by
        rcases cntI_mem.1 hf with h | h | h | h | h | h
        · exact itms_mem.2 (by omega)
        · exact itms_mem.2 (by omega)
        · exact itms_mem.2 (by omega)
        · exact itms_mem.2 (by omega)
        · exact itms_mem.2 (by omega)
        · exact absurd h hf32
      have h16 : f ≤ 16 := by rcases itms_mem.1 ho with e | e | e | e | e <;> omega
      have h1 : 1 ≤ f := by rcases itms_mem.1 ho with e | e | e | e | e <;> omega
      have HO := Lib.hid ho
      have H2 := Lib.hid (show 2 * f ∈ cntI by rcases itms_mem.1 ho with rfl | rfl | rfl | rfl | rfl <;> decide)
      have HN2 := Lib.hid (show ∀ g, g ∈ itms → g < 2 * f → g = f ∨ g < f from fun g hg hlt => by
        rcases itms_mem.1 ho with rfl | rfl | rfl | rfl | rfl <;> rcases itms_mem.1 hg with rfl | rfl | rfl | rfl | rfl <;> omega)
      have NM := Lib.hid (fun w1 => itemName_any f ho w1)
      obtain ⟨x, hx⟩ : ∃ x, itemB f = x := ⟨_, rfl⟩
      rw [hx] at NM
      have HX := Lib.hid hx
      clear ho hf hx
      by_cases he : x = y
      · have hb1 : (x == y) = true := by simpa using he
        have HE := Lib.hid (show itemU y = f from (itemU_eq HO.out).2 (by rw [HX.out, he]))
        clear he
        go_wp2_with fail
        refine (NM.out _).mono ?_
        rintro e w1 ⟨rfl, rfl⟩
        go_wp2_with fail
        refine (U.out _).mono ?_
        rintro e w2 ⟨rfl, h⟩
        replace hb := hb.trans (h.mono hb.size)
        clear h
        go_wp2_with fail
        go_ret
        exact ⟨by rw [HE.out]; rfl, hb⟩
      · have hb1 : (x == y) = false := by simpa using he
        have HE := Lib.hid he
        clear he
        go_wp2_with fail
        refine (NM.out _).mono ?_
        rintro e w1 ⟨rfl, rfl⟩
        go_wp2_with fail
        refine (U.out _).mono ?_
        rintro e w2 ⟨rfl, h⟩
        replace hb := hb.trans (h.mono hb.size)
        clear h
        go_wp2_with fail
        go_roundw
        case rel => exact ⟨2 * f, H2.out, by go_num, Lib.hid (fun g hg hlt e => by
          rcases HN2.out g hg hlt with rfl | h
          · exact HE.out (HX.out.symm.trans e.symm)
          · exact hn.out g hg h e), hb⟩
        case measure => simp [intOf]; omega

set_option maxRecDepth 100000 in
set_option maxHeartbeats 1000000 in
theorem refFlag7_any (s : ByteArray) (hs : s.size ≤ 1000000000) (w : World) :
    Calls Tryz.prog 72 #[.string s] w fun e w' => e = .returned (.int .i64 (flagL s.data.toList : Nat)) ∧ Below w.heap.size w w' := by
  have U := Lib.hid (fun w1 => refUpper_any s hs w1)
  obtain ⟨y, hy⟩ : ∃ y, upL s.data.toList = y := ⟨_, rfl⟩
  have HY := Lib.hid (show flagL s.data.toList = flagU y by rw [← hy]; rfl)
  rw [hy] at U
  rw [HY.out]
  clear hy HY
  go_enter Tryz.func72, Tryz.ntmps72
  go_wp2_with fail
  go_loopw [3] (fun i wr => ∃ f : Nat, f ∈ cntI ∧ i = .int .i64 f ∧ Hid (∀ g, g ∈ ones → g < f → y ≠ upL (nameF g)) ∧ Below w.heap.size w wr) (fun i _ => 32 - (intOf i).toNat)
  case atStart => exact ⟨1, by decide, rfl, Lib.hid (fun g hg h => by rcases ones_mem.1 hg with rfl | rfl | rfl | rfl | rfl <;> omega), Below.refl _ _⟩
  case round =>
    obtain ⟨f, hf, rfl, hn, hb⟩ := hrel
    by_cases hf32 : f = 32
    · subst hf32
      have HZ := Lib.hid (show flagU y = 0 by
        rcases flagU_is y with h | ⟨h1, h2⟩
        · exact h
        · exact absurd h2 (hn.out _ h1 (by rcases ones_mem.1 h1 with e | e | e | e | e <;> omega)))
      go_wp2_with fail
      go_ret
      exact ⟨by rw [HZ.out]; rfl, hb⟩
    · have ho : f ∈ ones := by
        rcases cntI_mem.1 hf with h | h | h | h | h | h
        · exact ones_mem.2 (by omega)
        · exact ones_mem.2 (by omega)
        · exact ones_mem.2 (by omega)
        · exact ones_mem.2 (by omega)
        · exact ones_mem.2 (by omega)
        · exact absurd h hf32
      have h16 : f ≤ 16 := by rcases ones_mem.1 ho with e | e | e | e | e <;> omega
      have h1 : 1 ≤ f := by rcases ones_mem.1 ho with e | e | e | e | e <;> omega
      have HO := Lib.hid ho
      have H2 := Lib.hid (show 2 * f ∈ cntI by rcases ones_mem.1 ho with rfl | rfl | rfl | rfl | rfl <;> decide)
      have HN2 := Lib.hid (show ∀ g, g ∈ ones → g < 2 * f → g = f ∨ g < f from fun g hg hlt => by
        rcases ones_mem.1 ho with rfl | rfl | rfl | rfl | rfl <;> rcases ones_mem.1 hg with rfl | rfl | rfl | rfl | rfl <;> omega)
      have NM := Lib.hid (fun w1 => refFName_any f w1)
      have hnl : (nameF f).length ≤ 100 := by rcases ones_mem.1 ho with rfl | rfl | rfl | rfl | rfl <;> decide
      have V := Lib.hid (fun w1 => refUpper_any ⟨(nameF f).toArray⟩ (by show (nameF f).toArray.size ≤ _; simp; omega) w1)
      rw [show (ByteArray.mk (nameF f).toArray).data.toList = nameF f from rfl] at V
      obtain ⟨nf, hnf⟩ : ∃ nf, nameF f = nf := ⟨_, rfl⟩
      rw [hnf] at V NM
      obtain ⟨x, hx⟩ : ∃ x, upL nf = x := ⟨_, rfl⟩
      rw [hx] at V
      have HX := Lib.hid (show upL (nameF f) = x by rw [hnf, hx])
      clear ho hf hnl hnf hx
      by_cases he : x = y
      · have hb1 : (x == y) = true := by simpa using he
        have HE := Lib.hid (show flagU y = f from (flagU_eq HO.out).2 (by rw [HX.out, he]))
        clear he
        go_wp2_with fail
        refine (NM.out _).mono ?_
        rintro e w1 ⟨rfl, rfl⟩
        go_wp2_with fail
        refine (V.out _).mono ?_
        rintro e w1 ⟨rfl, h⟩
        replace hb := hb.trans (h.mono hb.size)
        clear h
        go_wp2_with fail
        refine (U.out _).mono ?_
        rintro e w2 ⟨rfl, h⟩
        replace hb := hb.trans (h.mono hb.size)
        clear h
        go_wp2_with fail
        go_ret
        exact ⟨by rw [HE.out]; rfl, hb⟩
      · have hb1 : (x == y) = false := by simpa using he
        have HE := Lib.hid he
        clear he
        go_wp2_with fail
        refine (NM.out _).mono ?_
        rintro e w1 ⟨rfl, rfl⟩
        go_wp2_with fail
        refine (V.out _).mono ?_
        rintro e w1 ⟨rfl, h⟩
        replace hb := hb.trans (h.mono hb.size)
        clear h
        go_wp2_with fail
        refine (U.out _).mono ?_
        rintro e w2 ⟨rfl, h⟩
        replace hb := hb.trans (h.mono hb.size)
        clear h
        go_wp2_with fail
        go_roundw
        case rel => exact ⟨2 * f, H2.out, by go_num, Lib.hid (fun g hg hlt e => by
          rcases HN2.out g hg hlt with rfl | h
          · exact HE.out (HX.out.symm.trans e.symm)
          · exact hn.out g hg h e), hb⟩
        case measure => simp [intOf]; omega
end Go.Proofs.YthfopimgdikpgaaGreatDoor
