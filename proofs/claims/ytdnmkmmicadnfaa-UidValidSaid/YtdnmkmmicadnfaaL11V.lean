/- uid: the law UidValid, its walk. -/
import Derived.Test.YtdnmkmmicadnfaaL11S
namespace Go.Proofs.Ytdnmkmmicadnfaa
open Go.RowKit

set_option maxRecDepth 100000 in
set_option maxHeartbeats 2000000 in
theorem uidValid_any (n : Nat) (hn : n ≤ 4294967295) (b : Bool) (q : Nat) (hq : q ≤ 255) (w : World) :
    Calls Try.prog 6 #[.int .u32 n, .bool b, .int .u8 q] w fun e w' => e = .returned (.bool true) ∧ Below w.heap.size w w' := by
  have NWF := Lib.hid (fun m hm => new_any n m (by omega) (by omega) hm w)
  rcases (by omega : n = 0 ∨ 1 ≤ n) with rfl | n1 <;> cases b
  · have NW := Lib.hid (NWF.out 1 (.inl ⟨rfl, rfl⟩))
    clear NWF
    go_enter Try.func6, Try.ntmps6
    go_wp2_with fail
    refine NW.out.mono ?_
    rintro e w1 ⟨rfl, h1, hb1⟩
    have HB1 := Lib.hid hb1
    have H1 := h1
    clear h1 hb1 NW
    have H2 := H1
    have HB2 := HB1
    go_wp2_with fail
    go_loopw [16] (fun i wr => ∃ k : Nat, k ≤ q ∧ i = .int .u8 (k : Int) ∧ Hid (∃ N T : Nat, 1 ≤ N ∧ N ≤ 4294967295 ∧ T ≤ k ∧ Ctr w.heap.size 1 N T wr) ∧ Hid (Below w.heap.size w wr)) (fun i _ => q - (intOf i).toNat)
    case atStart => exact ⟨0, Nat.zero_le _, rfl, ⟨1, 0, by omega, by omega, Nat.le_refl _, H2.out⟩, HB2⟩
    case round =>
      obtain ⟨k, hk, rfl, hC, hB⟩ := hrel
      by_cases hlt : k < q
      · have e1 : decide (k < q) = true := by simpa using hlt
        obtain ⟨N, T, hN1, hN2, hT, hc⟩ := hC.out
        have HC := Lib.hid hc
        clear hc hC
        by_cases hx : N = 4294967295
        · subst hx
          have TF := Lib.hid (take_full w.heap.size _ _ wr HC.out)
          go_wp2_with (first | (go_at_call 12; refine TF.out.mono ?_; rintro e w9 ⟨rfl, rfl⟩))
          go_roundw
          case rel => exact ⟨k + 1, by omega, by go_num, ⟨4294967295, T, by omega, by omega, by omega, HC.out⟩, hB⟩
          case measure => simp [intOf]; omega
        · have TO := Lib.hid (take_ok w.heap.size _ _ _ (by omega) (by omega) (by omega) (by omega) wr HC.out)
          go_wp2_with fail
          refine TO.out.mono ?_
          rintro e w2 ⟨rfl, h2⟩
          have H2 := Lib.hid h2.out.1
          have HB2 := Lib.hid (hB.out.trans (below_grown h2.out.2 (Nat.le_refl _) hB.out.size))
          clear h2
          go_wp2_with fail
          go_roundw
          case rel => exact ⟨k + 1, by omega, by go_num, ⟨N + 1, T + 1, by omega, by omega, by omega, H2.out⟩, HB2⟩
          case measure => simp [intOf]; omega
      · have e1 : decide (k < q) = false := by simpa using hlt
        obtain ⟨N, T, hN1, hN2, hT, hc⟩ := hC.out
        have AL := Lib.hid (alive11_any wr)
        have HC := Lib.hid hc
        clear hc hC
        go_wp2_with fail
        refine AL.out.mono ?_
        rintro e w2 ⟨rfl, hb2⟩
        have VL := Lib.hid (valid_any w.heap.size _ _ _ w2 (HC.out.grow hb2))
        have HB2 := Lib.hid (hB.out.trans (hb2.mono hB.out.size))
        clear hb2
        go_wp2_with fail
        refine VL.out.mono ?_
        rintro e w3 ⟨rfl, h3⟩
        have VL := Lib.hid (valid_any w.heap.size _ _ _ w3 h3.out.1)
        have HB3 := Lib.hid (HB2.out.trans (below_grown h3.out.2 (Nat.le_refl _) HB2.out.size))
        clear h3
        go_wp2_with fail
        refine VL.out.mono ?_
        rintro e w4 ⟨rfl, h4⟩
        have HB4 := Lib.hid (HB3.out.trans (below_grown h4.out.2 (Nat.le_refl _) HB3.out.size))
        clear h4
        go_wp2_with fail
        go_ret
        exact ⟨rfl, HB4.out⟩

  · have NW := Lib.hid (NWF.out 1 (.inl ⟨rfl, rfl⟩))
    clear NWF
    go_enter Try.func6, Try.ntmps6
    go_wp2_with fail
    refine NW.out.mono ?_
    rintro e w1 ⟨rfl, h1, hb1⟩
    have HB1 := Lib.hid hb1
    have H1 := h1
    clear h1 hb1 NW
    have VL := Lib.hid (valid_any w.heap.size _ _ _ w1 H1.out)
    go_wp2_with fail
    refine VL.out.mono ?_
    rintro e w2 ⟨rfl, h2⟩
    have H2 := Lib.hid h2.out.1
    have HB2 := Lib.hid (HB1.out.trans (below_grown h2.out.2 (Nat.le_refl _) HB1.out.size))
    clear h2 VL
    go_wp2_with fail
    go_loopw [16] (fun i wr => ∃ k : Nat, k ≤ q ∧ i = .int .u8 (k : Int) ∧ Hid (∃ N T : Nat, 1 ≤ N ∧ N ≤ 4294967295 ∧ T ≤ k ∧ Ctr w.heap.size 1 N T wr) ∧ Hid (Below w.heap.size w wr)) (fun i _ => q - (intOf i).toNat)
    case atStart => exact ⟨0, Nat.zero_le _, rfl, ⟨1, 0, by omega, by omega, Nat.le_refl _, H2.out⟩, HB2⟩
    case round =>
      obtain ⟨k, hk, rfl, hC, hB⟩ := hrel
      by_cases hlt : k < q
      · have e1 : decide (k < q) = true := by simpa using hlt
        obtain ⟨N, T, hN1, hN2, hT, hc⟩ := hC.out
        have HC := Lib.hid hc
        clear hc hC
        by_cases hx : N = 4294967295
        · subst hx
          have TF := Lib.hid (take_full w.heap.size _ _ wr HC.out)
          go_wp2_with (first | (go_at_call 12; refine TF.out.mono ?_; rintro e w9 ⟨rfl, rfl⟩))
          go_roundw
          case rel => exact ⟨k + 1, by omega, by go_num, ⟨4294967295, T, by omega, by omega, by omega, HC.out⟩, hB⟩
          case measure => simp [intOf]; omega
        · have TO := Lib.hid (take_ok w.heap.size _ _ _ (by omega) (by omega) (by omega) (by omega) wr HC.out)
          go_wp2_with fail
          refine TO.out.mono ?_
          rintro e w2 ⟨rfl, h2⟩
          have H2 := Lib.hid h2.out.1
          have HB2 := Lib.hid (hB.out.trans (below_grown h2.out.2 (Nat.le_refl _) hB.out.size))
          clear h2
          go_wp2_with fail
          go_roundw
          case rel => exact ⟨k + 1, by omega, by go_num, ⟨N + 1, T + 1, by omega, by omega, by omega, H2.out⟩, HB2⟩
          case measure => simp [intOf]; omega
      · have e1 : decide (k < q) = false := by simpa using hlt
        obtain ⟨N, T, hN1, hN2, hT, hc⟩ := hC.out
        have AL := Lib.hid (alive11_any wr)
        have HC := Lib.hid hc
        clear hc hC
        go_wp2_with fail
        refine AL.out.mono ?_
        rintro e w2 ⟨rfl, hb2⟩
        have VL := Lib.hid (valid_any w.heap.size _ _ _ w2 (HC.out.grow hb2))
        have HB2 := Lib.hid (hB.out.trans (hb2.mono hB.out.size))
        clear hb2
        go_wp2_with fail
        refine VL.out.mono ?_
        rintro e w3 ⟨rfl, h3⟩
        have VL := Lib.hid (valid_any w.heap.size _ _ _ w3 h3.out.1)
        have HB3 := Lib.hid (HB2.out.trans (below_grown h3.out.2 (Nat.le_refl _) HB2.out.size))
        clear h3
        go_wp2_with fail
        refine VL.out.mono ?_
        rintro e w4 ⟨rfl, h4⟩
        have HB4 := Lib.hid (HB3.out.trans (below_grown h4.out.2 (Nat.le_refl _) HB3.out.size))
        clear h4
        go_wp2_with fail
        go_ret
        exact ⟨rfl, HB4.out⟩

  · have k0 : ¬ (n : Int) < 1 := by omega
    have NW := Lib.hid (NWF.out (n : Int) (.inr ⟨by omega, rfl⟩))
    clear NWF
    go_enter Try.func6, Try.ntmps6
    go_wp2_with fail
    refine NW.out.mono ?_
    rintro e w1 ⟨rfl, h1, hb1⟩
    have HB1 := Lib.hid hb1
    have H1 := h1
    clear h1 hb1 NW
    have H2 := H1
    have HB2 := HB1
    go_wp2_with fail
    go_loopw [16] (fun i wr => ∃ k : Nat, k ≤ q ∧ i = .int .u8 (k : Int) ∧ Hid (∃ N T : Nat, 1 ≤ N ∧ N ≤ 4294967295 ∧ T ≤ k ∧ Ctr w.heap.size (n : Int) N T wr) ∧ Hid (Below w.heap.size w wr)) (fun i _ => q - (intOf i).toNat)
    case atStart => exact ⟨0, Nat.zero_le _, rfl, ⟨n, 0, by omega, by omega, Nat.le_refl _, H2.out⟩, HB2⟩
    case round =>
      obtain ⟨k, hk, rfl, hC, hB⟩ := hrel
      by_cases hlt : k < q
      · have e1 : decide (k < q) = true := by simpa using hlt
        obtain ⟨N, T, hN1, hN2, hT, hc⟩ := hC.out
        have HC := Lib.hid hc
        clear hc hC
        by_cases hx : N = 4294967295
        · subst hx
          have TF := Lib.hid (take_full w.heap.size _ _ wr HC.out)
          go_wp2_with (first | (go_at_call 12; refine TF.out.mono ?_; rintro e w9 ⟨rfl, rfl⟩))
          go_roundw
          case rel => exact ⟨k + 1, by omega, by go_num, ⟨4294967295, T, by omega, by omega, by omega, HC.out⟩, hB⟩
          case measure => simp [intOf]; omega
        · have TO := Lib.hid (take_ok w.heap.size _ _ _ (by omega) (by omega) (by omega) (by omega) wr HC.out)
          go_wp2_with fail
          refine TO.out.mono ?_
          rintro e w2 ⟨rfl, h2⟩
          have H2 := Lib.hid h2.out.1
          have HB2 := Lib.hid (hB.out.trans (below_grown h2.out.2 (Nat.le_refl _) hB.out.size))
          clear h2
          go_wp2_with fail
          go_roundw
          case rel => exact ⟨k + 1, by omega, by go_num, ⟨N + 1, T + 1, by omega, by omega, by omega, H2.out⟩, HB2⟩
          case measure => simp [intOf]; omega
      · have e1 : decide (k < q) = false := by simpa using hlt
        obtain ⟨N, T, hN1, hN2, hT, hc⟩ := hC.out
        have AL := Lib.hid (alive11_any wr)
        have HC := Lib.hid hc
        clear hc hC
        go_wp2_with fail
        refine AL.out.mono ?_
        rintro e w2 ⟨rfl, hb2⟩
        have VL := Lib.hid (valid_any w.heap.size _ _ _ w2 (HC.out.grow hb2))
        have HB2 := Lib.hid (hB.out.trans (hb2.mono hB.out.size))
        clear hb2
        go_wp2_with fail
        refine VL.out.mono ?_
        rintro e w3 ⟨rfl, h3⟩
        have VL := Lib.hid (valid_any w.heap.size _ _ _ w3 h3.out.1)
        have HB3 := Lib.hid (HB2.out.trans (below_grown h3.out.2 (Nat.le_refl _) HB2.out.size))
        clear h3
        go_wp2_with fail
        refine VL.out.mono ?_
        rintro e w4 ⟨rfl, h4⟩
        have HB4 := Lib.hid (HB3.out.trans (below_grown h4.out.2 (Nat.le_refl _) HB3.out.size))
        clear h4
        go_wp2_with fail
        go_ret
        exact ⟨rfl, HB4.out⟩

  · have k0 : ¬ (n : Int) < 1 := by omega
    have NW := Lib.hid (NWF.out (n : Int) (.inr ⟨by omega, rfl⟩))
    clear NWF
    go_enter Try.func6, Try.ntmps6
    go_wp2_with fail
    refine NW.out.mono ?_
    rintro e w1 ⟨rfl, h1, hb1⟩
    have HB1 := Lib.hid hb1
    have H1 := h1
    clear h1 hb1 NW
    have VL := Lib.hid (valid_any w.heap.size _ _ _ w1 H1.out)
    go_wp2_with fail
    refine VL.out.mono ?_
    rintro e w2 ⟨rfl, h2⟩
    have H2 := Lib.hid h2.out.1
    have HB2 := Lib.hid (HB1.out.trans (below_grown h2.out.2 (Nat.le_refl _) HB1.out.size))
    clear h2 VL
    go_wp2_with fail
    go_loopw [16] (fun i wr => ∃ k : Nat, k ≤ q ∧ i = .int .u8 (k : Int) ∧ Hid (∃ N T : Nat, 1 ≤ N ∧ N ≤ 4294967295 ∧ T ≤ k ∧ Ctr w.heap.size (n : Int) N T wr) ∧ Hid (Below w.heap.size w wr)) (fun i _ => q - (intOf i).toNat)
    case atStart => exact ⟨0, Nat.zero_le _, rfl, ⟨n, 0, by omega, by omega, Nat.le_refl _, H2.out⟩, HB2⟩
    case round =>
      obtain ⟨k, hk, rfl, hC, hB⟩ := hrel
      by_cases hlt : k < q
      · have e1 : decide (k < q) = true := by simpa using hlt
        obtain ⟨N, T, hN1, hN2, hT, hc⟩ := hC.out
        have HC := Lib.hid hc
        clear hc hC
        by_cases hx : N = 4294967295
        · subst hx
          have TF := Lib.hid (take_full w.heap.size _ _ wr HC.out)
          go_wp2_with (first | (go_at_call 12; refine TF.out.mono ?_; rintro e w9 ⟨rfl, rfl⟩))
          go_roundw
          case rel => exact ⟨k + 1, by omega, by go_num, ⟨4294967295, T, by omega, by omega, by omega, HC.out⟩, hB⟩
          case measure => simp [intOf]; omega
        · have TO := Lib.hid (take_ok w.heap.size _ _ _ (by omega) (by omega) (by omega) (by omega) wr HC.out)
          go_wp2_with fail
          refine TO.out.mono ?_
          rintro e w2 ⟨rfl, h2⟩
          have H2 := Lib.hid h2.out.1
          have HB2 := Lib.hid (hB.out.trans (below_grown h2.out.2 (Nat.le_refl _) hB.out.size))
          clear h2
          go_wp2_with fail
          go_roundw
          case rel => exact ⟨k + 1, by omega, by go_num, ⟨N + 1, T + 1, by omega, by omega, by omega, H2.out⟩, HB2⟩
          case measure => simp [intOf]; omega
      · have e1 : decide (k < q) = false := by simpa using hlt
        obtain ⟨N, T, hN1, hN2, hT, hc⟩ := hC.out
        have AL := Lib.hid (alive11_any wr)
        have HC := Lib.hid hc
        clear hc hC
        go_wp2_with fail
        refine AL.out.mono ?_
        rintro e w2 ⟨rfl, hb2⟩
        have VL := Lib.hid (valid_any w.heap.size _ _ _ w2 (HC.out.grow hb2))
        have HB2 := Lib.hid (hB.out.trans (hb2.mono hB.out.size))
        clear hb2
        go_wp2_with fail
        refine VL.out.mono ?_
        rintro e w3 ⟨rfl, h3⟩
        have VL := Lib.hid (valid_any w.heap.size _ _ _ w3 h3.out.1)
        have HB3 := Lib.hid (HB2.out.trans (below_grown h3.out.2 (Nat.le_refl _) HB2.out.size))
        clear h3
        go_wp2_with fail
        refine VL.out.mono ?_
        rintro e w4 ⟨rfl, h4⟩
        have HB4 := Lib.hid (HB3.out.trans (below_grown h4.out.2 (Nat.le_refl _) HB3.out.size))
        clear h4
        go_wp2_with fail
        go_ret
        exact ⟨rfl, HB4.out⟩

end Go.Proofs.Ytdnmkmmicadnfaa
