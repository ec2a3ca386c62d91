/- The example of the chapter holds. -/
import Derived.Test.YtpgfnlhfciacoaaGreatDoorCliP
namespace Go.Proofs.YtpgfnlhfciacoaaGreatDoor
open Go.RowKit

theorem fewC_all {a : CI} (h : fewC a = true) : a.tag.length ≤ 100 ∧ a.mbox.length ≤ 300 ∧ a.set.length ≤ 60 ∧ a.data.length ≤ 500 := by
  unfold fewC at h
  simp at h
  exact h
def exC : CI := ⟨[97], 7, [], [(1, 0)], 3, 0, false, 0, []⟩
def exT : List UInt8 := [97, 32, 70, 69, 84, 67, 72, 32, 49, 58, 42, 32, 40, 70, 76, 65, 71, 83, 32, 85, 73, 68, 41]
theorem ex_valid : validC exC = true := by kernel_rfl
theorem ex_text : textT exC = exT := by kernel_rfl
theorem ex_step : stepF (exT ++ [13, 10]) 0 = some (⟨1, exT⟩, [], 0) := by kernel_rfl
theorem ex_sent : Sent (textT exC) 0 := by
  rw [ex_text]
  exact ⟨[], .cons ex_step (.nil _ _), rfl⟩
theorem ex_set (w : World) : SlAt encR 2 (w.alloc (.cells #[.int .u32 1, .int .u32 0] 50)) (some ⟨w.heap.size, 0, none⟩) [(1, 0)] := by
  refine .inr ⟨w.heap.size, 0, rfl, by simp, fun j x hj i u hi => ?_⟩
  have hj0 : j = 0 := by
    have := (List.getElem?_eq_some_iff.1 hj).1
    simpa using this
  subst hj0
  obtain rfl : (1, 0) = x := by simpa using hj
  rw [cell_of_row _ _ _ _ _ _ (heap_alloc_new w _)]
  have hi2 : i = 0 ∨ i = 1 := by
    have := (List.getElem?_eq_some_iff.1 hi).1
    simp [encR] at this
    omega
  rcases hi2 with rfl | rfl
  · simpa [encR] using hi
  · simpa [encR] using hi

set_option maxRecDepth 100000 in
set_option maxHeartbeats 1000000 in
theorem alive8_any (w : World) (he : EnvB w.heap.size w) :
    Calls Tryz.prog 10 #[] w fun e w' => e = .returned (.bool true) ∧ Below w.heap.size w w' := by
  have hb := below_al w (.cells #[.int .u32 1, .int .u32 0] 50)
  have P := cprint_any exC (some ⟨w.heap.size, 0, none⟩) none 1 0 (by decide) (by intro r hr; simp [exC] at hr; subst hr; decide) (by decide) (by decide) (by decide) (by decide) (w.alloc (.cells #[.int .u32 1, .int .u32 0] 50)) ((he.below hb).mono hb.size) (ex_set w) ⟨by decide, .inl rfl⟩
  have P := Lib.hid P
  have HB := Lib.hid hb
  clear hb he
  unfold ciV exC at P
  go_enter Tryz.func10, Tryz.ntmps10
  go_wp2_with fail
  refine P.out.mono ?_
  rintro e w1 (⟨_, A, c, rfl, hy, hb1⟩ | ⟨hno, _⟩)
  · have HB1 := Lib.hid (below_next HB.out hb1)
    have hT : textT ⟨[97], 7, [], [(1, 0)], 3, 0, false, 0, []⟩ = exT := ex_text
    rw [hT] at hy ⊢
    have cv := convS _ w1 A c 25 (exT ++ [13, 10]) hy rfl
    have hx : (exT ++ [13, 10]).length = 25 := rfl
    have hc : (ByteArray.mk (exT ++ [13, 10]).toArray) = ⟨#[97, 32, 70, 69, 84, 67, 72, 32, 49, 58, 42, 32, 40, 70, 76, 65, 71, 83, 32, 85, 73, 68, 41, 13, 10]⟩ := rfl
    rw [hc] at cv
    rw [hx]
    clear hy hb1 hT hx hc
    go_wp2_with fail
    go_ret
    exact ⟨rfl, HB1.out⟩
  · exact absurd ⟨ex_valid, 0, ex_sent⟩ hno
end Go.Proofs.YtpgfnlhfciacoaaGreatDoor
