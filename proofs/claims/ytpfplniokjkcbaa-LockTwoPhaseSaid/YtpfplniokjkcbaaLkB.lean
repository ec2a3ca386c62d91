/- The reference of layer 14: Blocked. -/
import Derived.Test.YtpfplniokjkcbaaLkS
import Derived.Deep.RegionWith
import Derived.Deep.CutBlock
import Derived.Deep.DeepCutAuto
namespace Go.Proofs.Ytpfplniokjkcbaa
open Go.RowKit

section
variable {A : Option Addr} {c : Nat} {q : Int} {L : List Int} {w : World}
theorem blkL_drop {L : List Int} {o : Int} {l : List Int} {k : Nat} (h : k < l.length) : blkL L o (l.drop k) = if ownL L l[k] ≠ o ∨ ownL L l[k] < 0 then decide (0 ≤ ownL L l[k]) else blkL L o (l.drop (k + 1)) := by
  rw [List.drop_eq_getElem_cons h]
  rfl
set_option maxRecDepth 100000 in
set_option maxHeartbeats 2000000 in
theorem rblocked14_any (o : Int) (A2 : Option Addr) (c2 : Nat) (l : List Int) (hl : L.length ≤ 1000) (hl2 : l.length ≤ 1000) (hS : SlAt encI 1 w A L) (hS2 : SlAt encI 1 w A2 l) :
    Calls Try.prog 26 #[tbV A L.length c q, .int .i64 o, .slice A2 l.length c2] w fun e w' => e = .returned (.bool (blkL L o l)) ∧ Below w.heap.size w w' := by
  have HS := Lib.hid (hS.below (below_al w (.cells #[.slice A L.length c, .int .i64 q] 28)))
  have HS2 := Lib.hid (hS2.below (below_al w (.cells #[.slice A L.length c, .int .i64 q] 28)))
  have c0 : (w.alloc (.cells #[.slice A L.length c, .int .i64 q] 28)).cell? ⟨w.heap.size, 0, none⟩ = some (.slice A L.length c) := by simp
  have c1 : (w.alloc (.cells #[.slice A L.length c, .int .i64 q] 28)).cell? ⟨w.heap.size, 1, none⟩ = some (.int .i64 q) := by simp
  have hz : w.heap.size < (w.alloc (.cells #[.slice A L.length c, .int .i64 q] 28)).heap.size := by simp
  have HB := Lib.hid (below_al w (.cells #[.slice A L.length c, .int .i64 q] 28))
  clear hS hS2
  unfold tbV
  go_enter Try.func26, Try.ntmps26
  go_wp2_with fail
  generalize w.alloc _ = w1 at *
  generalize hp : w.heap.size = p at *
  have HP := Lib.hid hp
  clear hp
  have OW := Lib.hid (fun (k : Int) W (hb : Below w1.heap.size w1 W) => rowner14_any (c := c) (q := q) k hl (HS.out.below hb))
  unfold tbV at OW
  go_loopw [7] (fun i wr => ∃ k : Nat, k ≤ l.length ∧ i = .int .i64 k ∧ Hid (blkL L o (l.drop k) = blkL L o l) ∧ Hid (Below w1.heap.size w1 wr)) (fun i _ => l.length - (intOf i).toNat)
  case atStart => exact ⟨0, Nat.zero_le _, rfl, Lib.hid (by rw [List.drop_zero]), Lib.hid (Below.refl _ _)⟩
  case round =>
    obtain ⟨k, hk, rfl, hE, hB⟩ := hrel
    have d0 := (hB.out.cell (p := ⟨p, 0, none⟩) hz).trans c0
    have d1 := (hB.out.cell (p := ⟨p, 1, none⟩) hz).trans c1
    by_cases hlt : k < l.length
    · obtain ⟨b, off, rfl, hb, hx⟩ := (HS2.out.below hB.out).int hlt
      have hk0 : (0 : Int) ≤ (k : Int) := by omega
      have hk1 : (k : Int) < ((l.length : Nat) : Int) := by omega
      have HD := Lib.hid (blkL_drop (L := L) (o := o) hlt)
      have OX := Lib.hid (fun W (hb : Below wr.heap.size wr W) => OW.out l[k] W (below_next hB.out hb))
      generalize l[k] = x at *
      generalize ownL L x = y at *
      clear OW c0 c1
      go_upto_region 4 with (fail)
      go_cut [8] (fun s8 wx => s8 = .int .i64 y ∧ Hid (Below w1.heap.size w1 wx))
      case first =>
        go_region_with (go_at_call 18; refine (OX.out _ (by repeat (first | assumption | exact Below.refl _ _ | refine belowDrawN ?_ _ | refine belowDraw ?_))).mono ?_; rintro e w3 ⟨rfl, hb3⟩)
        all_goals
          go_wp2_with fail
          go_meet
          exact ⟨rfl, Lib.hid (below_next hB.out (by first | exact hb3 | exact below_next (below_drew 1) hb3))⟩
      case rest =>
        obtain ⟨rfl, HB3⟩ := hcut
        clear OX hx d0 d1
        have HF := Lib.hid (HB.out.trans (HB3.out.mono (show p ≤ w1.heap.size by omega)))
        by_cases he : y = o
        · subst he
          by_cases h0 : 0 ≤ y
          · have HN := Lib.hid (show blkL L y (l.drop (k + 1)) = blkL L y l by
              have h := HD.out
              rw [if_neg (by omega)] at h
              exact h.symm.trans hE.out)
            have h0' : ¬ y < 0 := by omega
            go_wp2_with fail
            go_roundw
            case rel => exact ⟨k + 1, by omega, by go_num, HN, HB3⟩
            case measure => simp [intOf]; omega
          · have HN := Lib.hid (show blkL L y l = false by
              have h := HD.out
              rw [if_pos (by omega), decide_eq_false h0] at h
              exact hE.out.symm.trans h)
            have h0' : y < 0 := by omega
            go_wp2_with fail
            go_ret
            exact ⟨ret_bool HN.out.symm, by rw [HP.out]; exact HF.out⟩
        · have HN := Lib.hid (show blkL L o l = decide (0 ≤ y) by
            have h := HD.out
            rw [if_pos (.inl he)] at h
            exact hE.out.symm.trans h)
          have hb1 : (y == o) = false := by simpa using he
          by_cases h0 : 0 ≤ y
          · go_wp2_with fail
            go_ret
            exact ⟨ret_bool (by rw [HN.out, decide_eq_true h0]), by rw [HP.out]; exact HF.out⟩
          · go_wp2_with fail
            go_ret
            exact ⟨ret_bool (by rw [HN.out, decide_eq_false (by omega)]), by rw [HP.out]; exact HF.out⟩
    · obtain rfl : k = l.length := by omega
      rw [List.drop_length] at hE
      have HF := Lib.hid (HB.out.trans (hB.out.mono (show p ≤ w1.heap.size by omega)))
      clear hB
      go_wp2_with fail
      go_ret
      exact ⟨ret_bool hE.out, by rw [HP.out]; exact HF.out⟩
end
end Go.Proofs.Ytpfplniokjkcbaa
