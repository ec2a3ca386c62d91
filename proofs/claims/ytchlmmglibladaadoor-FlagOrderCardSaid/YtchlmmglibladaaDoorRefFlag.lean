/- The reference's flag: the flag of a name in letters of any case. -/
import Derived.Test.YtchlmmglibladaaDoorFlagName
import Derived.Test.YtchlmmglibladaaDoorRefUp
namespace Go.Proofs.YtchlmmglibladaaDoor
open Go.RowKit Go.Maps

/-- The loop's counter: 1, 2, 4, 8, 16, then 32. -/
def cnts : List Nat := [1, 2, 4, 8, 16, 32]
theorem cnts_mem {x : Nat} : x ∈ cnts ↔ x = 1 ∨ x = 2 ∨ x = 4 ∨ x = 8 ∨ x = 16 ∨ x = 32 := by simp [cnts]

set_option maxRecDepth 100000 in
set_option maxHeartbeats 1000000 in
theorem refFlag_any (s : ByteArray) (hs : s.size ≤ 1000000000) (w : World) :
    Calls Tryd.prog 26 #[.string s] w fun e w' => e = .returned (.int .i64 (flagL s.data.toList : Nat)) ∧ Below w.heap.size w w' := by
  have U := Lib.hid (fun w1 => refUpper_any s hs w1)
  obtain ⟨y, hy⟩ : ∃ y, upL s.data.toList = y := ⟨_, rfl⟩
  have HY := Lib.hid (show flagL s.data.toList = flagU y by rw [← hy]; rfl)
  rw [hy] at U
  rw [HY.out]
  clear hy HY
  go_enter Tryd.func26, Tryd.ntmps26
  go_wp2_with fail
  go_loopw [3] (fun i wr => ∃ f : Nat, f ∈ cnts ∧ i = .int .i64 f ∧ Hid (∀ g, g ∈ ones → g < f → y ≠ upL (nameF g)) ∧ Below w.heap.size w wr) (fun i _ => 32 - (intOf i).toNat)
  case atStart => exact ⟨1, by decide, rfl, Lib.hid (fun g hg h => by rcases ones_mem.1 hg with rfl | rfl | rfl | rfl | rfl <;> omega), Below.refl _ _⟩
  case round =>
    obtain ⟨f, hf, rfl, hn, hb⟩ := hrel
    by_cases hf32 : f = 32
    · subst hf32
      have HZ := Lib.hid (show flagU y = 0 by
        rcases flagU_is y with h | ⟨h1, h2⟩
        · exact h
        · exact absurd h2 (hn.out _ h1 (by rcases ones_mem.1 h1 with e | e | e | e | e <;> omega)))
      go_wp2_with fail
      go_ret
      exact ⟨by rw [HZ.out]; rfl, hb⟩
    · have ho : f ∈ ones := by
        rcases cnts_mem.1 hf with h | h | h | h | h | h
        · exact ones_mem.2 (by omega)
        · exact ones_mem.2 (by omega)
        · exact ones_mem.2 (by omega)
        · exact ones_mem.2 (by omega)
        · exact ones_mem.2 (by omega)
        · exact absurd h hf32
      have h16 : f ≤ 16 := by rcases ones_mem.1 ho with e | e | e | e | e <;> omega
      have h1 : 1 ≤ f := by rcases ones_mem.1 ho with e | e | e | e | e <;> omega
      have HO := Lib.hid ho
      have H2 := Lib.hid (show 2 * f ∈ cnts by rcases ones_mem.1 ho with rfl | rfl | rfl | rfl | rfl <;> decide)
      have HN2 := Lib.hid (show ∀ g, g ∈ ones → g < 2 * f → g = f ∨ g < f from fun g hg hlt => by
        rcases ones_mem.1 ho with rfl | rfl | rfl | rfl | rfl <;> rcases ones_mem.1 hg with rfl | rfl | rfl | rfl | rfl <;> omega)
      have NM := Lib.hid (fun w1 => refName_any f w1)
      have hnl : (nameF f).length ≤ 100 := by rcases ones_mem.1 ho with rfl | rfl | rfl | rfl | rfl <;> decide
      have V := Lib.hid (fun w1 => refUpper_any ⟨(nameF f).toArray⟩ (by show (nameF f).toArray.size ≤ _; simp; omega) w1)
      rw [show (ByteArray.mk (nameF f).toArray).data.toList = nameF f from rfl] at V
      obtain ⟨nf, hnf⟩ : ∃ nf, nameF f = nf := ⟨_, rfl⟩
      rw [hnf] at V NM
      obtain ⟨x, hx⟩ : ∃ x, upL nf = x := ⟨_, rfl⟩
      rw [hx] at V
      have HX := Lib.hid (show upL (nameF f) = x by rw [hnf, hx])
      clear ho hf hnl hnf hx
      by_cases he : x = y
      · have hb1 : (x == y) = true := by simpa using he
        have HE := Lib.hid (show flagU y = f from (flagU_eq HO.out).2 (by rw [HX.out, he]))
        clear he
        go_wp2_with fail
        refine (NM.out _).mono ?_
        rintro e w1 ⟨rfl, rfl⟩
        go_wp2_with fail
        refine (V.out _).mono ?_
        rintro e w1 ⟨rfl, h⟩
        replace hb := hb.trans (h.mono hb.size)
        clear h
        go_wp2_with fail
        refine (U.out _).mono ?_
        rintro e w2 ⟨rfl, h⟩
        replace hb := hb.trans (h.mono hb.size)
        clear h
        go_wp2_with fail
        go_ret
        exact ⟨by rw [HE.out]; rfl, hb⟩
      · have hb1 : (x == y) = false := by simpa using he
        have HE := Lib.hid he
        clear he
        go_wp2_with fail
        refine (NM.out _).mono ?_
        rintro e w1 ⟨rfl, rfl⟩
        go_wp2_with fail
        refine (V.out _).mono ?_
        rintro e w1 ⟨rfl, h⟩
        replace hb := hb.trans (h.mono hb.size)
        clear h
        go_wp2_with fail
        refine (U.out _).mono ?_
        rintro e w2 ⟨rfl, h⟩
        replace hb := hb.trans (h.mono hb.size)
        clear h
        go_wp2_with fail
        go_roundw
        case rel => exact ⟨2 * f, H2.out, by go_num, Lib.hid (fun g hg hlt => by
          rcases HN2.out g hg hlt with rfl | h
          · rw [HX.out]; exact fun e => HE.out e.symm
          · exact hn.out g hg h), hb⟩
        case measure => simp [intOf]; omega
end Go.Proofs.YtchlmmglibladaaDoor
