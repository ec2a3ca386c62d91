/- uid: the law UidAscends, its walk. -/
import Derived.Test.YtdnmkmmicadnfaaL11S
namespace Go.Proofs.Ytdnmkmmicadnfaa
open Go.RowKit

set_option maxRecDepth 100000 in
set_option maxHeartbeats 2000000 in
theorem uidAscends_any (n : Nat) (hn : n ≤ 4294967295) (q : Nat) (hq : q ≤ 255) (w : World) :
    Calls Try.prog 4 #[.int .u32 n, .int .u8 q] w fun e w' => e = .returned (.bool true) ∧ Below w.heap.size w w' := by
  obtain ⟨m, hm, m1, m2⟩ := first_of n
  have m2 := m2 hn
  have hnm : n ≤ m := by omega
  have NW := Lib.hid (new_any n m (by omega) (by omega) hm w)
  clear hm
  go_enter Try.func4, Try.ntmps4
  go_wp2_with fail
  refine NW.out.mono ?_
  rintro e w1 ⟨rfl, h1, hb1⟩
  have HB1 := Lib.hid hb1
  have H1 := h1
  clear h1 hb1 NW
  go_wp2_with fail
  go_loopw [6, 14] (fun v i wr => ∃ k N u : Nat, k ≤ q ∧ i = .int .u8 (k : Int) ∧ v = .int .u32 (u : Int) ∧ u < N ∧ n ≤ N ∧ N ≤ 4294967295 ∧ Hid (∃ T : Nat, T ≤ k ∧ Ctr w.heap.size m N T wr) ∧ Hid (Below w.heap.size w wr)) (fun _ i _ => q - (intOf i).toNat)
  case atStart => exact ⟨0, m, 0, Nat.zero_le _, rfl, rfl, m1, hnm, m2, ⟨0, Nat.le_refl _, H1.out⟩, HB1⟩
  case round =>
    obtain ⟨k, N, u, hk, rfl, rfl, hu, hN, hM, hC, hB⟩ := hrel
    by_cases hlt : k < q
    · have e1 : decide (k < q) = true := by simpa using hlt
      by_cases hx : N = 4294967295
      · subst hx
        obtain ⟨T, hT, hc⟩ := hC.out
        have TF := Lib.hid (take_full w.heap.size _ _ wr hc)
        have AL := Lib.hid (alive11_any wr)
        have HC := Lib.hid hc
        clear hc hC
        go_wp2_with (first | (go_at_call 12; refine TF.out.mono ?_; rintro e w9 ⟨rfl, rfl⟩))
        refine AL.out.mono ?_
        rintro e w2 ⟨rfl, hb2⟩
        have H2 := Lib.hid (HC.out.grow hb2)
        have LF := Lib.hid (left_any w.heap.size _ _ _ (by decide) (by decide) w2 H2.out)
        have HB2 := Lib.hid (hB.out.trans (hb2.mono hB.out.size))
        clear hb2
        go_wp2_with (first | (go_at_call 17; refine LF.out.mono ?_; rintro e w9 ⟨rfl, rfl⟩))
        go_ret
        exact ⟨rfl, HB2.out⟩
      · obtain ⟨T, hT, hc⟩ := hC.out
        have TO := Lib.hid (take_ok w.heap.size _ _ _ (by omega) (by omega) (by omega) (by omega) wr hc)
        have f1 : decide (N ≤ u) = false := by simp; omega
        have f2 : decide (N < n) = false := by simp; omega
        have HH := Lib.hid (show Ctr w.heap.size m N T wr from hc)
        clear hc hC
        go_wp2_with fail
        refine TO.out.mono ?_
        rintro e w2 ⟨rfl, h2⟩
        have H2 := Lib.hid h2.out.1
        have HB2 := Lib.hid (hB.out.trans (below_grown h2.out.2 (Nat.le_refl _) hB.out.size))
        clear h2
        go_wp2_with fail
        go_roundw
        case rel => exact ⟨k + 1, N + 1, N, by omega, by go_num, rfl, by omega, by omega, by omega, ⟨T + 1, by omega, H2.out⟩, HB2⟩
        case measure => simp [intOf]; omega
    · have e1 : decide (k < q) = false := by simpa using hlt
      have AL := Lib.hid (alive11_any wr)
      go_wp2_with fail
      refine AL.out.mono ?_
      rintro e w2 ⟨rfl, hb2⟩
      have HB2 := Lib.hid (hB.out.trans (hb2.mono hB.out.size))
      clear hb2
      go_wp2_with fail
      go_ret
      exact ⟨rfl, HB2.out⟩
end Go.Proofs.Ytdnmkmmicadnfaa
