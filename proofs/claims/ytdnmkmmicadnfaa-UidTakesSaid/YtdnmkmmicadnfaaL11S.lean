/- uid: the example of the chapter; the laws UidSkips, UidNil: their walks. -/
import Derived.Test.YtdnmkmmicadnfaaUdM
namespace Go.Proofs.Ytdnmkmmicadnfaa
open Go.RowKit

set_option maxRecDepth 100000 in
set_option maxHeartbeats 1000000 in
theorem alive11_any (w : World) : Calls Try.prog 9 #[] w fun e w' => e = .returned (.bool true) ∧ Below w.heap.size w w' := by
  have NW := Lib.hid (new_any 4294967294 4294967294 (by decide) (by decide) (.inr ⟨by decide, rfl⟩) w)
  go_enter Try.func9, Try.ntmps9
  go_wp2_with fail
  refine NW.out.mono ?_
  rintro e w1 ⟨rfl, hc1, hb1⟩
  have T1 := Lib.hid (take_ok w.heap.size _ _ _ (by decide) (by decide) (by decide) (by decide) w1 hc1.out)
  have HB1 := Lib.hid hb1
  clear hb1 hc1 NW
  go_wp2_with fail
  refine T1.out.mono ?_
  rintro e w2 ⟨rfl, h2⟩
  have T2 := Lib.hid (take_full w.heap.size _ _ w2 h2.out.1)
  have HB2 := Lib.hid (HB1.out.trans (below_grown h2.out.2 (Nat.le_refl _) HB1.out.size))
  clear h2 T1 HB1
  go_wp2_with fail
  refine T2.out.mono ?_
  rintro e w3 ⟨rfl, rfl⟩
  go_wp2_with fail
  go_ret
  exact ⟨rfl, HB2.out⟩

theorem first_of (n : Nat) : ∃ m : Nat, (((n : Int) = 0 ∧ (m : Int) = 1) ∨ (1 ≤ (n : Int) ∧ (m : Int) = n)) ∧ 1 ≤ m ∧ (n ≤ 4294967295 → m ≤ 4294967295) :=
  if h : n = 0 then ⟨1, .inl ⟨by omega, rfl⟩, Nat.le_refl _, fun _ => by omega⟩ else ⟨n, .inr ⟨by omega, rfl⟩, by omega, fun h => h⟩

set_option maxRecDepth 100000 in
set_option maxHeartbeats 2000000 in
theorem uidSkips_any (n : Nat) (hn : n ≤ 4294967295) (t : Nat) (ht : t ≤ 4294967295) (w : World) :
    Calls Try.prog 7 #[.int .u32 n, .int .u32 t] w fun e w' => e = .returned (.bool true) ∧ Below w.heap.size w w' := by
  have NWF := Lib.hid (fun m hm => new_any n m (by omega) (by omega) hm w)
  by_cases n0 : n = 0
  · subst n0
    have NW := Lib.hid (NWF.out 1 (.inl ⟨rfl, rfl⟩))
    clear NWF
    by_cases t1 : 1 < t
    · have k1 : 1 < (t : Int) := by omega
      have k2 : 0 < (t : Int) := by omega
      have k3 : ¬ (t : Int) < 1 := by omega
      have e1 : decide ((1 : Int) < (t : Int)) = true := by simp; omega
      have e2 : decide ((1 : Nat) < t) = true := by simp; omega
      go_enter Try.func7, Try.ntmps7
      go_wp2_with fail
      refine NW.out.mono ?_
      rintro e w1 ⟨rfl, h1, hb1⟩
      have H1 := h1
      have HB1 := Lib.hid hb1
      clear hb1
      have SK := Lib.hid (skip_t w.heap.size _ _ _ (t : Int) (by omega) w1 h1.out)
      clear h1
      go_wp2_with fail
      refine SK.out.mono ?_
      rintro e w2 ⟨rfl, h2⟩
      have AL := Lib.hid (alive11_any w2)
      have H2 := Lib.hid h2.out.1
      have HB2 := Lib.hid (HB1.out.trans (below_grown h2.out.2 (Nat.le_refl _) HB1.out.size))
      clear h2
      go_wp2_with fail
      refine AL.out.mono ?_
      rintro e w3 ⟨rfl, hb3⟩
      have H3 := Lib.hid (H2.out.grow hb3)
      have NX := Lib.hid (next_any w.heap.size _ _ _ w3 H3.out)
      have TK := Lib.hid (taken_any w.heap.size _ _ _ w3 H3.out)
      have HB3 := Lib.hid (HB2.out.trans (hb3.mono (by have := HB2.out.size; omega)))
      clear hb3
      go_wp2_with (first | (go_at_call 16; refine NX.out.mono ?_; rintro e w4 ⟨rfl, rfl⟩) | (go_at_call 18; refine TK.out.mono ?_; rintro e w4 ⟨rfl, rfl⟩))
      go_ret
      exact ⟨rfl, HB3.out⟩
    · rcases (by omega : t = 0 ∨ t = 1) with rfl | rfl
      · go_enter Try.func7, Try.ntmps7
        go_wp2_with fail
        refine NW.out.mono ?_
        rintro e w1 ⟨rfl, h1, hb1⟩
        have H1 := h1
        have HB1 := Lib.hid hb1
        clear hb1
        have SK := Lib.hid (skip_f w.heap.size _ _ _ (0 : Int) (by omega) w1 h1.out)
        clear h1
        go_wp2_with fail
        refine SK.out.mono ?_
        rintro e w2 ⟨rfl, rfl⟩
        have AL := Lib.hid (alive11_any w1)
        have H2 := H1
        have HB2 := HB1
        go_wp2_with fail
        refine AL.out.mono ?_
        rintro e w3 ⟨rfl, hb3⟩
        have H3 := Lib.hid (H2.out.grow hb3)
        have NX := Lib.hid (next_any w.heap.size _ _ _ w3 H3.out)
        have TK := Lib.hid (taken_any w.heap.size _ _ _ w3 H3.out)
        have HB3 := Lib.hid (HB2.out.trans (hb3.mono (by have := HB2.out.size; omega)))
        clear hb3
        go_wp2_with (first | (go_at_call 16; refine NX.out.mono ?_; rintro e w4 ⟨rfl, rfl⟩) | (go_at_call 18; refine TK.out.mono ?_; rintro e w4 ⟨rfl, rfl⟩))
        go_ret
        exact ⟨rfl, HB3.out⟩
      · go_enter Try.func7, Try.ntmps7
        go_wp2_with fail
        refine NW.out.mono ?_
        rintro e w1 ⟨rfl, h1, hb1⟩
        have H1 := h1
        have HB1 := Lib.hid hb1
        clear hb1
        have SK := Lib.hid (skip_f w.heap.size _ _ _ (1 : Int) (by omega) w1 h1.out)
        clear h1
        go_wp2_with fail
        refine SK.out.mono ?_
        rintro e w2 ⟨rfl, rfl⟩
        have AL := Lib.hid (alive11_any w1)
        have H2 := H1
        have HB2 := HB1
        go_wp2_with fail
        refine AL.out.mono ?_
        rintro e w3 ⟨rfl, hb3⟩
        have H3 := Lib.hid (H2.out.grow hb3)
        have NX := Lib.hid (next_any w.heap.size _ _ _ w3 H3.out)
        have TK := Lib.hid (taken_any w.heap.size _ _ _ w3 H3.out)
        have HB3 := Lib.hid (HB2.out.trans (hb3.mono (by have := HB2.out.size; omega)))
        clear hb3
        go_wp2_with (first | (go_at_call 16; refine NX.out.mono ?_; rintro e w4 ⟨rfl, rfl⟩) | (go_at_call 18; refine TK.out.mono ?_; rintro e w4 ⟨rfl, rfl⟩))
        go_ret
        exact ⟨rfl, HB3.out⟩
  · have NW := Lib.hid (NWF.out n (.inr ⟨by omega, rfl⟩))
    have k0 : ¬ (n : Int) < 1 := by omega
    clear NWF
    by_cases t1 : n < t
    · have k1 : (n : Int) < t := by omega
      have k3 : ¬ (t : Int) < 1 := by omega
      have e1 : decide ((n : Int) < (t : Int)) = true := by simp; omega
      have e2 : decide (n < t) = true := by simp; omega
      go_enter Try.func7, Try.ntmps7
      go_wp2_with fail
      refine NW.out.mono ?_
      rintro e w1 ⟨rfl, h1, hb1⟩
      have H1 := h1
      have HB1 := Lib.hid hb1
      clear hb1
      have SK := Lib.hid (skip_t w.heap.size _ _ _ (t : Int) (by omega) w1 h1.out)
      clear h1
      go_wp2_with fail
      refine SK.out.mono ?_
      rintro e w2 ⟨rfl, h2⟩
      have AL := Lib.hid (alive11_any w2)
      have H2 := Lib.hid h2.out.1
      have HB2 := Lib.hid (HB1.out.trans (below_grown h2.out.2 (Nat.le_refl _) HB1.out.size))
      clear h2
      go_wp2_with fail
      refine AL.out.mono ?_
      rintro e w3 ⟨rfl, hb3⟩
      have H3 := Lib.hid (H2.out.grow hb3)
      have NX := Lib.hid (next_any w.heap.size _ _ _ w3 H3.out)
      have TK := Lib.hid (taken_any w.heap.size _ _ _ w3 H3.out)
      have HB3 := Lib.hid (HB2.out.trans (hb3.mono (by have := HB2.out.size; omega)))
      clear hb3
      go_wp2_with (first | (go_at_call 16; refine NX.out.mono ?_; rintro e w4 ⟨rfl, rfl⟩) | (go_at_call 18; refine TK.out.mono ?_; rintro e w4 ⟨rfl, rfl⟩))
      go_ret
      exact ⟨rfl, HB3.out⟩
    · have k1 : ¬ (n : Int) < t := by omega
      have e1 : decide ((n : Int) < (t : Int)) = false := by simp; omega
      have e2 : decide (n < t) = false := by simp; omega
      go_enter Try.func7, Try.ntmps7
      go_wp2_with fail
      refine NW.out.mono ?_
      rintro e w1 ⟨rfl, h1, hb1⟩
      have H1 := h1
      have HB1 := Lib.hid hb1
      clear hb1
      have SK := Lib.hid (skip_f w.heap.size _ _ _ (t : Int) (by omega) w1 h1.out)
      clear h1
      go_wp2_with fail
      refine SK.out.mono ?_
      rintro e w2 ⟨rfl, rfl⟩
      have AL := Lib.hid (alive11_any w1)
      have H2 := H1
      have HB2 := HB1
      go_wp2_with fail
      refine AL.out.mono ?_
      rintro e w3 ⟨rfl, hb3⟩
      have H3 := Lib.hid (H2.out.grow hb3)
      have NX := Lib.hid (next_any w.heap.size _ _ _ w3 H3.out)
      have TK := Lib.hid (taken_any w.heap.size _ _ _ w3 H3.out)
      have HB3 := Lib.hid (HB2.out.trans (hb3.mono (by have := HB2.out.size; omega)))
      clear hb3
      go_wp2_with (first | (go_at_call 16; refine NX.out.mono ?_; rintro e w4 ⟨rfl, rfl⟩) | (go_at_call 18; refine TK.out.mono ?_; rintro e w4 ⟨rfl, rfl⟩))
      go_ret
      exact ⟨rfl, HB3.out⟩

end Go.Proofs.Ytdnmkmmicadnfaa
