/- uid: the law UidNil, its walk. -/
import Derived.Test.YtdnmkmmicadnfaaL11S
namespace Go.Proofs.Ytdnmkmmicadnfaa
open Go.RowKit

set_option maxRecDepth 100000 in
set_option maxHeartbeats 2000000 in
theorem uidNil_any (n : Nat) (hn : n ≤ 4294967295) (w : World) :
    Calls Try.prog 8 #[.int .u32 n] w fun e w' => e = .returned (.bool true) ∧ Below w.heap.size w w' := by
  have NWF := Lib.hid (fun m hm W => new_any n m (by omega) (by omega) hm W)
  by_cases n0 : n = 0
  · subst n0
    have NW1 := Lib.hid (NWF.out 1 (.inl ⟨rfl, rfl⟩) w)
    go_enter Try.func8, Try.ntmps8
    go_wp2_with fail
    refine NW1.out.mono ?_
    rintro e w1 ⟨rfl, h1, hb1⟩
    have NW2 := Lib.hid (NWF.out 1 (.inl ⟨rfl, rfl⟩) w1)
    have hlt := h1.out.lt
    have H1 := h1
    have HB1 := Lib.hid hb1
    clear h1 hb1 NW1 NWF
    go_wp2_with fail
    refine NW2.out.mono ?_
    rintro e w2 ⟨rfl, h2, hb2⟩
    have H1 := Lib.hid (H1.out.grow hb2)
    have H2 := h2
    have HB2 := Lib.hid (HB1.out.trans (hb2.mono HB1.out.size))
    have TK := Lib.hid (take_ok w.heap.size _ _ _ (by omega) (by omega) (by decide) (by decide) w2 H1.out)
    generalize w1.heap.size = g2 at *
    clear h2 hb2 NW2 HB1
    go_wp2_with fail
    refine TK.out.mono ?_
    rintro e w3 ⟨rfl, h3⟩
    have H3 := Lib.hid (H2.out.other h3.out.2 (by omega))
    have HB3 := Lib.hid (HB2.out.trans (below_grown h3.out.2 (Nat.le_refl _) HB2.out.size))
    clear h3
    have TN := Lib.hid (take_nil w3)
    clear TK
    go_wp2_with fail
    refine TN.out.mono ?_
    rintro e w4 ⟨rfl, rfl⟩
    have AL := Lib.hid (alive11_any w3)
    clear TN
    go_wp2_with fail
    refine AL.out.mono ?_
    rintro e w5 ⟨rfl, hb5⟩
    have HB5 := Lib.hid (HB3.out.trans (hb5.mono HB3.out.size))
    have H5 := Lib.hid (H3.out.grow hb5)
    have N1 := Lib.hid (next_nil w5)
    have N2 := Lib.hid (left_nil w5)
    have N3 := Lib.hid (taken_nil w5)
    have N4 := Lib.hid (valid_nil w5)
    clear hb5 AL
    go_wp2_with (first | (go_at_call 16; refine N1.out.mono ?_; rintro e w9 ⟨rfl, rfl⟩) | (go_at_call 17; refine N2.out.mono ?_; rintro e w9 ⟨rfl, rfl⟩) | (go_at_call 18; refine N3.out.mono ?_; rintro e w9 ⟨rfl, rfl⟩))
    refine N4.out.mono ?_
    rintro e w6 ⟨rfl, hb6⟩
    have HB6 := Lib.hid (HB5.out.trans (hb6.mono HB5.out.size))
    have N5 := Lib.hid (skip_nil 5 w6)
    have N6 := Lib.hid (next_any g2 _ _ _ w6 (H5.out.grow hb6))
    clear hb6
    go_wp2_with (first | (go_at_call 14; refine N5.out.mono ?_; rintro e w9 ⟨rfl, rfl⟩) | (go_at_call 16; refine N6.out.mono ?_; rintro e w9 ⟨rfl, rfl⟩))
    go_ret
    exact ⟨rfl, HB6.out⟩

  · have k0 : ¬ (n : Int) < 1 := by omega
    by_cases n1 : n = 4294967295
    · subst n1
      have NW1 := Lib.hid (NWF.out 4294967295 (.inr ⟨by omega, rfl⟩) w)
      go_enter Try.func8, Try.ntmps8
      go_wp2_with fail
      refine NW1.out.mono ?_
      rintro e w1 ⟨rfl, h1, hb1⟩
      have NW2 := Lib.hid (NWF.out 4294967295 (.inr ⟨by omega, rfl⟩) w1)
      have hlt := h1.out.lt
      have H1 := h1
      have HB1 := Lib.hid hb1
      clear h1 hb1 NW1 NWF
      go_wp2_with fail
      refine NW2.out.mono ?_
      rintro e w2 ⟨rfl, h2, hb2⟩
      have H1 := Lib.hid (H1.out.grow hb2)
      have H2 := h2
      have HB2 := Lib.hid (HB1.out.trans (hb2.mono HB1.out.size))
      have TK := Lib.hid (take_full w.heap.size _ _ w2 H1.out)
      generalize w1.heap.size = g2 at *
      clear h2 hb2 NW2 HB1
      go_wp2_with fail
      refine TK.out.mono ?_
      rintro e w3 ⟨rfl, rfl⟩
      have H3 := H2
      have HB3 := HB2
      have TN := Lib.hid (take_nil w2)
      clear TK
      go_wp2_with fail
      refine TN.out.mono ?_
      rintro e w4 ⟨rfl, rfl⟩
      have AL := Lib.hid (alive11_any w2)
      clear TN
      go_wp2_with fail
      refine AL.out.mono ?_
      rintro e w5 ⟨rfl, hb5⟩
      have HB5 := Lib.hid (HB3.out.trans (hb5.mono HB3.out.size))
      have H5 := Lib.hid (H3.out.grow hb5)
      have N1 := Lib.hid (next_nil w5)
      have N2 := Lib.hid (left_nil w5)
      have N3 := Lib.hid (taken_nil w5)
      have N4 := Lib.hid (valid_nil w5)
      clear hb5 AL
      go_wp2_with (first | (go_at_call 16; refine N1.out.mono ?_; rintro e w9 ⟨rfl, rfl⟩) | (go_at_call 17; refine N2.out.mono ?_; rintro e w9 ⟨rfl, rfl⟩) | (go_at_call 18; refine N3.out.mono ?_; rintro e w9 ⟨rfl, rfl⟩))
      refine N4.out.mono ?_
      rintro e w6 ⟨rfl, hb6⟩
      have HB6 := Lib.hid (HB5.out.trans (hb6.mono HB5.out.size))
      have N5 := Lib.hid (skip_nil 5 w6)
      have N6 := Lib.hid (next_any g2 _ _ _ w6 (H5.out.grow hb6))
      clear hb6
      go_wp2_with (first | (go_at_call 14; refine N5.out.mono ?_; rintro e w9 ⟨rfl, rfl⟩) | (go_at_call 16; refine N6.out.mono ?_; rintro e w9 ⟨rfl, rfl⟩))
      go_ret
      exact ⟨rfl, HB6.out⟩
    · have NW1 := Lib.hid (NWF.out n (.inr ⟨by omega, rfl⟩) w)
      go_enter Try.func8, Try.ntmps8
      go_wp2_with fail
      refine NW1.out.mono ?_
      rintro e w1 ⟨rfl, h1, hb1⟩
      have NW2 := Lib.hid (NWF.out n (.inr ⟨by omega, rfl⟩) w1)
      have hlt := h1.out.lt
      have H1 := h1
      have HB1 := Lib.hid hb1
      clear h1 hb1 NW1 NWF
      go_wp2_with fail
      refine NW2.out.mono ?_
      rintro e w2 ⟨rfl, h2, hb2⟩
      have H1 := Lib.hid (H1.out.grow hb2)
      have H2 := h2
      have HB2 := Lib.hid (HB1.out.trans (hb2.mono HB1.out.size))
      have TK := Lib.hid (take_ok w.heap.size _ _ _ (by omega) (by omega) (by decide) (by decide) w2 H1.out)
      generalize w1.heap.size = g2 at *
      clear h2 hb2 NW2 HB1
      go_wp2_with fail
      refine TK.out.mono ?_
      rintro e w3 ⟨rfl, h3⟩
      have H3 := Lib.hid (H2.out.other h3.out.2 (by omega))
      have HB3 := Lib.hid (HB2.out.trans (below_grown h3.out.2 (Nat.le_refl _) HB2.out.size))
      clear h3
      have TN := Lib.hid (take_nil w3)
      clear TK
      go_wp2_with fail
      refine TN.out.mono ?_
      rintro e w4 ⟨rfl, rfl⟩
      have AL := Lib.hid (alive11_any w3)
      clear TN
      go_wp2_with fail
      refine AL.out.mono ?_
      rintro e w5 ⟨rfl, hb5⟩
      have HB5 := Lib.hid (HB3.out.trans (hb5.mono HB3.out.size))
      have H5 := Lib.hid (H3.out.grow hb5)
      have N1 := Lib.hid (next_nil w5)
      have N2 := Lib.hid (left_nil w5)
      have N3 := Lib.hid (taken_nil w5)
      have N4 := Lib.hid (valid_nil w5)
      clear hb5 AL
      go_wp2_with (first | (go_at_call 16; refine N1.out.mono ?_; rintro e w9 ⟨rfl, rfl⟩) | (go_at_call 17; refine N2.out.mono ?_; rintro e w9 ⟨rfl, rfl⟩) | (go_at_call 18; refine N3.out.mono ?_; rintro e w9 ⟨rfl, rfl⟩))
      refine N4.out.mono ?_
      rintro e w6 ⟨rfl, hb6⟩
      have HB6 := Lib.hid (HB5.out.trans (hb6.mono HB5.out.size))
      have N5 := Lib.hid (skip_nil 5 w6)
      have N6 := Lib.hid (next_any g2 _ _ _ w6 (H5.out.grow hb6))
      clear hb6
      go_wp2_with (first | (go_at_call 14; refine N5.out.mono ?_; rintro e w9 ⟨rfl, rfl⟩) | (go_at_call 16; refine N6.out.mono ?_; rintro e w9 ⟨rfl, rfl⟩))
      go_ret
      exact ⟨rfl, HB6.out⟩


end Go.Proofs.Ytdnmkmmicadnfaa
