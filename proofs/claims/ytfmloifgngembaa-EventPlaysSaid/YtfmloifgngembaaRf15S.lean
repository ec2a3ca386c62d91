/- The reference of layer 15: Squeeze, Flush. -/
import Derived.Test.YtfmloifgngembaaRf15
import Derived.Test.YtfmloifgngembaaApG
import Derived.BigQuiet
import Derived.Deep.QuietTactic
import Derived.Deep.LoopGhost
import Derived.CellFam
import Derived.Deep.CutBlock
namespace Go.Proofs.Ytfmloifgngembaa
open Go.RowKit

theorem laterE_cons (x y : EvI) (l : List EvI) : laterE x (y :: l) = (decide (x.k = 3 ∧ y.k = 3 ∧ y.u = x.u) || laterE x l) := rfl
section
variable {A : Option Addr} {c : Nat} {l : List EvI} {w : World}
set_option maxRecDepth 100000 in
set_option maxHeartbeats 2000000 in
theorem rsqueeze15_any (hl : l.length ≤ 100000) (hS : SlAt encEv 3 w A l) :
    Calls Try.prog 22 #[.slice A l.length c] w fun e w' => ∃ v, e = .returned v ∧ w'.ownsRow w.heap.size 39 3 v (sqE l).length (flatL encEv (sqE l)) ∧ Below w.heap.size w w' := by
  obtain ⟨i0, hi, hz0, hz1, hz2⟩ := info_parts infoEv
  have HS := Lib.hid hS
  clear hS
  go_enter Try.func22, Try.ntmps22
  go_wp2_with fail
  go_loopw [3, 4] (fun v i wr => ∃ k : Nat, k ≤ l.length ∧ i = .int .i64 k ∧ ∃ O : List EvI, Hid (O.length ≤ k) ∧ Hid (wr.ownsRow w.heap.size 39 3 v O.length (flatL encEv O)) ∧ Hid (Below w.heap.size w wr) ∧ Hid (O ++ sqE (l.drop k) = sqE l)) (fun _ i _ => l.length - (intOf i).toNat)
  case atStart => exact ⟨0, Nat.zero_le _, rfl, [], Lib.hid (Nat.le_refl _), Lib.hid (World.ownsRow_nil _ _ _ _), Lib.hid (Below.refl _ _), Lib.hid rfl⟩
  case round =>
    obtain ⟨k, hk, rfl, O, hOl, hrow, hB, hE⟩ := hrel
    obtain ⟨A', c', rfl⟩ := own_any hrow.out
    have hk0 : (0 : Int) ≤ (k : Int) := by omega
    by_cases hlt : k < l.length
    · obtain ⟨b, off, rfl, hb, hx, hx1, hx2⟩ := (HS.out.below hB.out).ev hlt
      have hk1 : (k : Int) < (l.length : Int) := by omega
      have HD := Lib.hid (show sqE (l.drop k) = if laterE l[k] (l.drop (k + 1)) = true then sqE (l.drop (k + 1)) else l[k] :: sqE (l.drop (k + 1)) by rw [List.drop_eq_getElem_cons hlt]; rfl)
      generalize l[k] = x at *
      generalize wr = wo at *
      go_wp2_with fail
      go_loopw [5, 6] (fun s i wr => ∃ j : Nat, k + 1 ≤ j ∧ j ≤ l.length ∧ i = .int .i64 j ∧ Hid (Below wo.heap.size wo wr) ∧ ∃ b : Bool, s = .bool b ∧ Hid (laterE x (l.drop (k + 1)) = (!b || laterE x (l.drop j)))) (fun _ i _ => l.length - (intOf i).toNat)
      case atStart => exact ⟨k + 1, Nat.le_refl _, by omega, by go_num, Lib.hid (Below.refl _ _), true, rfl, Lib.hid rfl⟩
      case round =>
        obtain ⟨j, hj1, hj, rfl, hBi, s, rfl, hL⟩ := hrel
        replace hrow := Lib.hid (own_below hrow.out hBi.out)
        replace hB := Lib.hid (below_next hB.out hBi.out)
        replace hx := (hBi.out.cell (p := ⟨b, off + k * 3, none⟩) hb).trans hx
        replace hx1 := (hBi.out.cell (p := ⟨b, off + k * 3 + 1, none⟩) hb).trans hx1
        replace hx2 := (hBi.out.cell (p := ⟨b, off + k * 3 + 2, none⟩) hb).trans hx2
        have hj0 : (0 : Int) ≤ (j : Int) := by omega
        by_cases hjt : j < l.length
        · obtain ⟨b2, off2, hA2, hb2, y0, y1, _⟩ := (HS.out.below hB.out).ev hjt
          injection hA2 with hA2
          injection hA2 with e1 e2
          subst e1; subst e2
          have hj2 : (j : Int) < (l.length : Int) := by omega
          have HC := Lib.hid (show laterE x (l.drop j) = (decide (x.k = 3 ∧ l[j].k = 3 ∧ l[j].u = x.u) || laterE x (l.drop (j + 1))) by rw [List.drop_eq_getElem_cons hjt]; rfl)
          generalize l[j] = y at *
          by_cases e1 : x.k = 3
          · have h1 : decide (x.k = 3) = true := decide_eq_true e1
            by_cases e2 : y.k = 3
            · by_cases e3 : y.u = x.u
              · have HN := Lib.hid (show laterE x (l.drop (k + 1)) = (!false || laterE x (l.drop (j + 1))) by rw [hL.out, HC.out, decide_eq_true ⟨e1, e2, e3⟩]; cases s <;> rfl)
                have hx' := hx
                have y0' := y0
                have y1' := y1
                rw [e1] at hx'
                rw [e2] at y0'
                rw [e3] at y1'
                clear hx y0 y1 e1 e2 e3 HC h1
                go_upto_region 9 with (fail)
                go_quiet (fail)
                all_goals
                  go_wp2_with fail
                  go_roundw
                  case rel => exact ⟨j + 1, by omega, by omega, by go_num, Lib.hid (belowDrawN hBi.out _), false, rfl, HN⟩
                  case measure => simp [intOf]; omega
              · have HN := Lib.hid (show laterE x (l.drop (k + 1)) = (!s || laterE x (l.drop (j + 1))) by rw [hL.out, HC.out, decide_eq_false (fun e => e3 e.2.2)]; rfl)
                have hne : ((y.u : Int) == (x.u : Int)) = false := by simp; omega
                have hx' := hx
                have y0' := y0
                rw [e1] at hx'
                rw [e2] at y0'
                clear hx y0 e1 e2 e3 HC h1
                go_upto_region 9 with (fail)
                go_quiet (fail)
                all_goals
                  go_wp2_with fail
                  go_roundw
                  case rel => exact ⟨j + 1, by omega, by omega, by go_num, Lib.hid (belowDrawN hBi.out _), s, rfl, HN⟩
                  case measure => simp [intOf]; omega
            · have HN := Lib.hid (show laterE x (l.drop (k + 1)) = (!s || laterE x (l.drop (j + 1))) by rw [hL.out, HC.out, decide_eq_false (fun e => e2 e.2.1)]; rfl)
              have hne : (y.k == 3) = false := beq_eq_false_iff_ne.2 e2
              have hx' := hx
              rw [e1] at hx'
              clear hx e1 e2 HC h1
              go_upto_region 9 with (fail)
              go_quiet (fail)
              all_goals
                go_wp2_with fail
                go_roundw
                case rel => exact ⟨j + 1, by omega, by omega, by go_num, Lib.hid (belowDrawN hBi.out _), s, rfl, HN⟩
                case measure => simp [intOf]; omega
          · have HN := Lib.hid (show laterE x (l.drop (k + 1)) = (!s || laterE x (l.drop (j + 1))) by rw [hL.out, HC.out, decide_eq_false (fun e => e1 e.1)]; rfl)
            have hne : (x.k == 3) = false := beq_eq_false_iff_ne.2 e1
            clear e1 HC
            go_upto_region 9 with (fail)
            go_quiet (fail)
            all_goals
              go_wp2_with fail
              go_roundw
              case rel => exact ⟨j + 1, by omega, by omega, by go_num, Lib.hid (belowDrawN hBi.out _), s, rfl, HN⟩
              case measure => simp [intOf]; omega
        · obtain rfl : j = l.length := by omega
          have HL := Lib.hid (show laterE x (l.drop (k + 1)) = !s by rw [hL.out, List.drop_length]; simp [laterE])
          cases s with
          | false =>
            have HF := Lib.hid (show O ++ sqE (l.drop (k + 1)) = sqE l by rw [← hE.out, HD.out, HL.out]; rfl)
            clear hL HL hE HD
            go_wp2_with fail
            go_roundw
            case rel => exact ⟨k + 1, by omega, by go_num, O, Lib.hid (by have := hOl.out; omega), hrow, hB, HF⟩
            case measure => simp [intOf]; omega
          | true =>
            have HF := Lib.hid (show (O ++ [x]) ++ sqE (l.drop (k + 1)) = sqE l by rw [← hE.out, HD.out, HL.out]; simp)
            have hOl2 := hOl.out
            have hBs := hB.out.size
            have HRW := Lib.hid (hrow.out.alloc (.cells #[.int .i64 x.k, .int .u32 (x.u : Int), .int .u8 (x.f : Int)] 39))
            clear hL HL hE HD
            go_wp2_with (at_builtin; refine wpList_append_own _ rfl _ _ 28 rfl w.heap.size 39 i0 _ 3 16 Try.underlying28 hi hz0 hz1 hz2 rfl (by decide) _ _ _ rfl HRW.out ⟨wr.heap.size, 0, none⟩ 1 1 [.int .i64 x.k, .int .u32 (x.u : Int), .int .u8 (x.f : Int)] rfl rfl (cells_new3 rfl _ _ _ _) (ev_one x) (by unfold maxLen; omega) (by omega) (by simp; omega) ?_; intro v' wz hown' hgrow _; obtain ⟨A3, c3, rfl⟩ := own_any hown'; have HB2 := Lib.hid ((hB.out.alloc hBs (.cells #[.int .i64 x.k, .int .u32 (x.u : Int), .int .u8 (x.f : Int)] 39)).grown hgrow (by simp; omega) (fun k hk => (hrow.out.lt k hk).1)); have HO2 := Lib.hid hown'; clear hown' hgrow)
            go_roundw
            case rel => exact ⟨k + 1, by omega, by go_num, O ++ [x], Lib.hid (by rw [List.length_append]; simp; omega), Lib.hid (by rw [List.length_append, flatL_append]; exact HO2.out), HB2, HF⟩
            case measure => simp [intOf]; omega
    · obtain rfl : k = l.length := by omega
      have HF := Lib.hid (show O = sqE l by have := hE.out; rw [List.drop_length] at this; simpa [sqE] using this)
      clear hE
      go_wp2_with fail
      go_ret
      rw [← HF.out]
      exact ⟨_, rfl, hrow.out, hB.out⟩
end
end Go.Proofs.Ytfmloifgngembaa
