/- The reference's Parse of flags. -/
import Derived.Test.YtchlmmglibladaaDoorRefFlag
import Derived.Test.YtchlmmglibladaaDoorFlagPMath
import Derived.Test.YtchlmmglibladaaDoorFlagChMath
namespace Go.Proofs.YtchlmmglibladaaDoor
open Go.RowKit Go.Maps

set_option maxRecDepth 100000 in
set_option maxHeartbeats 1000000 in
theorem refParse_any (s : ByteArray) (hs : s.size ≤ 100000000) (w : World) :
    Calls Tryd.prog 14 #[.string s] w fun e w' => e = .returned (.int .i64 (refO (parseF s.data.toList))) ∧ Below w.heap.size w w' := by
  by_cases h1 : s.data.toList = [40, 41]
  · have b1 : (s.toList == [40, 41]) = true := by rw [btl, h1]; rfl
    have HP := Lib.hid (show parseF s.data.toList = some 0 by unfold parseF; rw [if_pos h1])
    clear h1
    go_enter Tryd.func14, Tryd.ntmps14
    go_wp2_with fail
    go_ret
    exact ⟨by rw [HP.out]; rfl, Below.refl _ _⟩
  have b1 : (s.toList == [40, 41]) = false := by rw [btl]; simpa using h1
  have H1 := Lib.hid h1
  clear h1
  by_cases h2 : s.size < 2
  · have HP := Lib.hid (show parseF s.data.toList = none by unfold parseF; rw [if_neg H1.out, if_neg (by rw [Array.length_toList]; show ¬ (2 ≤ s.size ∧ _); omega)])
    go_enter Tryd.func14, Tryd.ntmps14
    go_wp2_with fail
    go_ret
    exact ⟨by rw [HP.out]; rfl, Below.refl _ _⟩
  have h20 : 0 < s.size := by omega
  have h21 : s.size - 1 < s.size := by omega
  have h22 : (1 : Int) ≤ s.size := by omega
  have h23 : 2 ≤ s.size := by omega
  clear h2
  have g0 : s.data.toList[0]? = some s[0] := by rw [Array.getElem?_toList, Array.getElem?_eq_getElem h20]; rfl
  have g1 : s.data.toList[s.data.toList.length - 1]? = some s[s.size - 1] := by
    rw [Array.getElem?_toList, Array.length_toList]
    show s.data[s.size - 1]? = _
    rw [Array.getElem?_eq_getElem h21]; rfl
  by_cases c0 : s[0].toNat = 40
  case neg =>
    have HP := Lib.hid (show parseF s.data.toList = none by
      unfold parseF
      rw [if_neg H1.out, if_neg]
      rintro ⟨_, e, _⟩
      rw [g0] at e
      injection e with e
      exact c0 (by rw [e]; rfl))
    have d0 : ((s[0].toNat : Int) != 40) = true := by simp; omega
    clear g0 g1 c0 H1
    go_enter Tryd.func14, Tryd.ntmps14
    go_wp2_with fail
    go_ret
    exact ⟨by rw [HP.out]; rfl, Below.refl _ _⟩
  by_cases c1 : s[s.size - 1].toNat = 41
  case neg =>
    have HP := Lib.hid (show parseF s.data.toList = none by
      unfold parseF
      rw [if_neg H1.out, if_neg]
      rintro ⟨_, _, e⟩
      rw [g1] at e
      injection e with e
      exact c1 (by rw [e]; rfl))
    have d0 : ((s[0].toNat : Int) != 40) = false := by simp; omega
    have d1 : ((s[s.size - 1].toNat : Int) != 41) = true := by simp; omega
    clear g0 g1 c0 c1 H1
    go_enter Tryd.func14, Tryd.ntmps14
    go_wp2_with fail
    go_ret
    exact ⟨by rw [HP.out]; rfl, Below.refl _ _⟩
  have HP := Lib.hid (show parseF s.data.toList = namesO (splitL 32 (innerL s.data.toList)) by
    unfold parseF
    rw [if_neg H1.out, if_pos]
    refine ⟨by rw [Array.length_toList]; exact h23, ?_, ?_⟩
    · rw [g0]; congr 1; exact UInt8.toNat_inj.1 c0
    · rw [g1]; congr 1; exact UInt8.toNat_inj.1 c1)
  have d0 : ((s[0].toNat : Int) != 40) = false := by simp; omega
  have d1 : ((s[s.size - 1].toNat : Int) != 41) = false := by simp; omega
  have R0 := Lib.hid (refAt_start (l := s.data.toList) (by rw [Array.length_toList]; exact h23))
  rw [HP.out]
  clear g0 g1 c0 c1 H1 HP
  go_enter Tryd.func14, Tryd.ntmps14
  go_wp2_with fail
  clear d0 d1
  go_loopw [4, 5, 6] (fun o fr i wr => ∃ (pre : List (List UInt8)) (f k x : Nat), o = .int .i64 x ∧ fr = .int .i64 f ∧ i = .int .i64 k ∧ 1 ≤ f ∧ f ≤ k ∧ k ≤ s.size ∧ x < 32 ∧ Hid (orF pre = x) ∧ Hid (RefAt s.data.toList pre f k) ∧ Below w.heap.size w wr)
    (fun _ _ i _ => s.size - (intOf i).toNat)
  case atStart => exact ⟨[], 1, 1, 0, rfl, rfl, rfl, by omega, by omega, by omega, by omega, Lib.hid rfl, R0, Below.refl _ _⟩
  case round =>
    obtain ⟨pre, f, k, x, rfl, rfl, rfl, hf1, hfk, hks, hx, HX, HR, hb⟩ := hrel
    by_cases hlt : k < s.size
    · have hget : s.data.toList[k]? = some s[k] := by rw [Array.getElem?_toList, Array.getElem?_eq_getElem hlt]; rfl
      by_cases hend : k < s.size - 1 ∧ s[k].toNat ≠ 32
      · have HN := Lib.hid (refAt_skip HR.out (by rw [Array.length_toList]; show _ < s.size; omega) (by rw [hget]; intro e; injection e with e; exact hend.2 (by rw [e]; rfl)))
        have e1 := hend.1
        have e2 : ((s[k].toNat : Int) != 32) = true := by simp; omega
        clear hget hend HR
        go_wp2_with fail
        go_roundw
        case rel => exact ⟨pre, f, k + 1, x, rfl, rfl, by go_num, by omega, by omega, by omega, by omega, HX, HN, hb⟩
        case measure => simp [intOf]; omega
      · have hc : k + 1 < s.data.toList.length → s.data.toList[k]? = some 32 := by
          rw [Array.length_toList, hget]
          intro h
          congr 1
          have : k + 1 < s.size := h
          apply UInt8.toNat_inj.1
          show s[k].toNat = 32
          omega
        have hseg : (s.extract f k).data.toList = segL s.data.toList f k := by
          rw [ByteArray.data_extract, Array.toList_extract, List.extract]
          rfl
        have F := Lib.hid (refFlag_any (s.extract f k) (by rw [ByteArray.size_extract]; omega) wr)
        rw [hseg] at F
        have hfl := flagL_lt (segL s.data.toList f k)
        by_cases h0 : flagL (segL s.data.toList f k) = 0
        · have HB := Lib.hid (refAt_bad HR.out hfk (by rw [Array.length_toList]; exact hlt) hc h0)
          rw [h0] at F
          clear hget hc hseg HR h0 hfl
          have hw : ((s[k].toNat : Int) != 32) = false ∨ ((s[k].toNat : Int) != 32) = true ∧ s.size - 1 ≤ k := by
            by_cases e : s[k].toNat = 32
            · left; simp; omega
            · right; exact ⟨by simp; omega, by omega⟩
          clear hend
          rcases hw with e2 | ⟨e2, e3⟩
          all_goals
            go_wp2_with fail
            refine F.out.mono ?_
            rintro e w1 ⟨rfl, h⟩
            replace hb := hb.trans (h.mono hb.size)
            clear h F
            go_wp2_with fail
            go_ret
            exact ⟨by rw [HB.out]; rfl, hb⟩
        · have HN := Lib.hid (refAt_next HR.out hfk (by rw [Array.length_toList]; exact hlt) hc h0)
          have HO := Lib.hid (orF_snoc pre (segL s.data.toList f k))
          have H0 := Lib.hid h0
          have HT := Lib.hid (i64_or_nat x (flagL (segL s.data.toList f k)) (by omega) (by omega))
          generalize segL s.data.toList f k = sg at *
          generalize flagL sg = g at *
          have hg0 : ((g : Int) == 0) = false := by simp; omega
          have hor : x ||| g < 32 := Nat.or_lt_two_pow (n := 5) hx hfl
          clear hget hc hseg HR h0
          have hw : ((s[k].toNat : Int) != 32) = false ∨ ((s[k].toNat : Int) != 32) = true ∧ s.size - 1 ≤ k := by
            by_cases e : s[k].toNat = 32
            · left; simp; omega
            · right; exact ⟨by simp; omega, by omega⟩
          clear hend
          rcases hw with e2 | ⟨e2, e3⟩
          all_goals
            go_wp2_with fail
            refine F.out.mono ?_
            rintro e w1 ⟨rfl, h⟩
            replace hb := hb.trans (h.mono hb.size)
            clear h F
            go_wp2_with fail
            go_roundw
            case rel => exact ⟨_, k + 1, k + 1, x ||| g, by rw [HT.out], by go_num, by go_num, by omega, by omega, by omega, hor, Lib.hid (by rw [HO.out, HX.out]), HN, hb⟩
            case measure => simp [intOf]; omega
    · obtain rfl : k = s.size := by omega
      have HE := Lib.hid (refAt_end HR.out (by rw [Array.length_toList]; exact Nat.le_refl _))
      clear HR
      go_wp2_with fail
      go_ret
      exact ⟨by rw [HE.out, HX.out]; rfl, hb⟩
end Go.Proofs.YtchlmmglibladaaDoor
