/- uid: the law UidFull, its walk. -/
import Derived.Test.YtdnmkmmicadnfaaL11S
namespace Go.Proofs.Ytdnmkmmicadnfaa
open Go.RowKit

set_option maxRecDepth 100000 in
set_option maxHeartbeats 2000000 in
theorem uidFull_any (n : Nat) (hn : n ≤ 255) (w : World) :
    Calls Try.prog 5 #[.int .u8 n] w fun e w' => e = .returned (.bool true) ∧ Below w.heap.size w w' := by
  have NW := Lib.hid (new_any 4294967295 4294967295 (by decide) (by decide) (.inr ⟨by decide, rfl⟩) w)
  go_enter Try.func5, Try.ntmps5
  go_wp2_with fail
  refine NW.out.mono ?_
  rintro e w1 ⟨rfl, h1, hb1⟩
  have HB1 := Lib.hid hb1
  have H1 := h1
  clear h1 hb1 NW
  go_wp2_with fail
  go_loopw [10] (fun i wr => ∃ k : Nat, k ≤ n ∧ i = .int .u8 (k : Int) ∧ Hid (Ctr w.heap.size 4294967295 4294967295 0 wr) ∧ Hid (Below w.heap.size w wr)) (fun i _ => n - (intOf i).toNat)
  case atStart => exact ⟨0, Nat.zero_le _, rfl, H1, HB1⟩
  case round =>
    obtain ⟨k, hk, rfl, hC, hB⟩ := hrel
    by_cases hlt : k < n
    · have e1 : decide (k < n) = true := by simpa using hlt
      have TF := Lib.hid (take_full w.heap.size _ _ wr hC.out)
      have SF := Lib.hid (skip_f w.heap.size _ _ _ 4294967295 (by decide) wr hC.out)
      have NX := Lib.hid (next_any w.heap.size _ _ _ wr hC.out)
      go_wp2_with (first | (go_at_call 12; refine TF.out.mono ?_; rintro e w9 ⟨rfl, rfl⟩) | (go_at_call 14; refine SF.out.mono ?_; rintro e w9 ⟨rfl, rfl⟩) | (go_at_call 16; refine NX.out.mono ?_; rintro e w9 ⟨rfl, rfl⟩))
      go_roundw
      case rel => exact ⟨k + 1, by omega, by go_num, hC, hB⟩
      case measure => simp [intOf]; omega
    · have e1 : decide (k < n) = false := by simpa using hlt
      have AL := Lib.hid (alive11_any wr)
      go_wp2_with fail
      refine AL.out.mono ?_
      rintro e w2 ⟨rfl, hb2⟩
      have H2 := Lib.hid (hC.out.grow hb2)
      have LF := Lib.hid (left_any w.heap.size _ _ _ (by decide) (by decide) w2 H2.out)
      have TK := Lib.hid (taken_any w.heap.size _ _ _ w2 H2.out)
      have HB2 := Lib.hid (hB.out.trans (hb2.mono hB.out.size))
      clear hb2
      go_wp2_with (first | (go_at_call 17; refine LF.out.mono ?_; rintro e w9 ⟨rfl, rfl⟩) | (go_at_call 18; refine TK.out.mono ?_; rintro e w9 ⟨rfl, rfl⟩))
      go_ret
      exact ⟨rfl, HB2.out⟩
end Go.Proofs.Ytdnmkmmicadnfaa
