/- The law StripeOf. -/
import Derived.Test.YtcfpdflaabfdkaaL13Z
import Derived.Deep.RegionHeld3
import Derived.BigQuiet
import Derived.Deep.QuietTactic
namespace Go.Proofs.Ytcfpdflaabfdkaa
open Go.RowKit

/-- An empty table, all of it in new blocks; nothing else has changed. -/
def TbE (B g k : Nat) (w0 w : World) : Prop := (∃ S, Tb g k S [] w ∧ ∀ j, S j → B ≤ j) ∧ Below B w0 w ∧ B ≤ w.heap.size
section
variable {B g k : Nat} {w0 w w' : World}
theorem TbE.below (h : TbE B g k w0 w) (hb : Below w.heap.size w w') : TbE B g k w0 w' := by
  obtain ⟨⟨S, h1, h2⟩, h3, h4⟩ := h
  exact ⟨⟨S, h1.kept (KeptO.of_below (S := fun _ => False) hb) fun _ _ => id, h2⟩, h3.trans (hb.mono h4), Nat.le_trans h4 hb.size⟩
theorem TbE.drawN (h : TbE B g k w0 w) (n : Nat) : TbE B g k w0 (w.drewN n) := h.below (below_drew n)
theorem TbE.draw (h : TbE B g k w0 w) : TbE B g k w0 w.drew := h.below (below_drew 1)
end
set_option maxRecDepth 100000 in
set_option maxHeartbeats 4000000 in
theorem stripeOf_any (n : Nat) (hn : n ≤ 255) (u : Nat) (hu : u ≤ 4294967295) (w : World) :
    Calls Try.prog 5 #[.int .u8 n, .int .u32 u] w fun e w' => e = .returned (.bool true) ∧ Below w.heap.size w w' := by
  obtain ⟨k, hk⟩ : ∃ k, k = 1 + n % 16 := ⟨_, rfl⟩
  have hki : (1 : Int) + (n : Int) % 16 = (k : Int) := by omega
  have hk1 : 1 ≤ k := by omega
  have hk2 : k ≤ 16 := by omega
  have N1 := Lib.hid (tnew_any k (by omega) w)
  have AL : Hid (∀ g W, TbE w.heap.size g k w W → Calls Try.prog 10 #[] W fun e w' => e = .returned (.bool true) ∧ TbE w.heap.size g k w w') := Lib.hid fun g W h =>
    (alive13_any W).mono fun e w' ⟨h1, h2⟩ => ⟨h1, h.below h2⟩
  have OF : Hid (∀ g W, TbE w.heap.size g k w W → Calls Try.prog 20 #[.pointer (some ⟨g, 0, none⟩), .int .u32 u] W fun e w' => e = .returned (.int .i64 ((u % k : Nat) : Int)) ∧ TbE w.heap.size g k w w') := Lib.hid fun g W h => by
    obtain ⟨S, h1, h2⟩ := h.1
    exact (tof_any u hu h1).mono fun e w' ⟨h3, h4⟩ => ⟨h3, h.below h4⟩
  have SZ : Hid (∀ g W, TbE w.heap.size g k w W → Calls Try.prog 15 #[.pointer (some ⟨g, 0, none⟩)] W fun e w' => ∃ A c, e = .returned (.slice A k c) ∧ TbE w.heap.size g k w w') := Lib.hid fun g W h => by
    obtain ⟨⟨S, h1, h2⟩, h3, h4⟩ := h
    refine (tsizes_any h1 (by simp)).mono ?_
    rintro e w' ⟨v, S', rfl, k1, k2, k3, k4⟩
    obtain ⟨A, c, rfl⟩ := own_any k1
    rw [szM_len]
    exact ⟨A, c, rfl, ⟨S', k2, fun j hj => (k3.2 j hj).elim (h2 j) fun e => Nat.le_trans h4 e⟩, h3.trans (k4.below h2 h4), Nat.le_trans h4 k4.size⟩
  have hle : u % k ≤ u := Nat.mod_le u k
  have hw1 : IntKind.u64.wrap (k : Int) = (k : Int) := by simp [IntKind.wrap, IntKind.bits, IntKind.signed]; omega
  have hw2 : IntKind.u64.wrap (u : Int) = (u : Int) := by simp [IntKind.wrap, IntKind.bits, IntKind.signed]; omega
  have hr : ∀ W, (binOp BinOp.rem 49 (.int .u64 (u : Int)) (.int .u64 (k : Int))).run Try.prog W = .ok (.int .u64 ((u % k : Nat) : Int)) W := by
    intro W
    have h0 : ¬ k = 0 := by omega
    simp [go_sem, h0]
    rw [Int.tmod_eq_emod_of_nonneg (by omega)]
  have hw3 : IntKind.i64.wrap ((u % k : Nat) : Int) = ((u % k : Nat) : Int) := by
    have : u % k < k := Nat.mod_lt _ (by omega)
    have h9 : ∀ q : Nat, q < 16 → IntKind.i64.wrap (q : Int) = (q : Int) := by
      intro q hq
      have : ∀ q : Fin 16, IntKind.i64.wrap (q.val : Int) = (q.val : Int) := by decide +kernel
      exact this ⟨q, hq⟩
    exact h9 _ (by omega)
  have hk0 : ¬ k = 0 := by omega
  have ht : Int.tmod (u : Int) (k : Int) = ((u % k : Nat) : Int) := by
    rw [Int.tmod_eq_emod_of_nonneg (by omega)]
    rfl
  have hm : (u : Int) % (k : Int) = ((u % k : Nat) : Int) := rfl
  clear hk hle
  generalize u % k = q at *
  go_enter Try.func5, Try.ntmps5
  go_wp2_with fail
  refine N1.out.mono ?_
  rintro e w1 ⟨g, S, rfl, t1, s1, hb1⟩
  have T1 : TbE w.heap.size g k w w1 := ⟨⟨S, t1, s1⟩, hb1, hb1.size⟩
  clear t1 s1 hb1 N1
  go_upto_region 3 with (fail)
  go_region_held3 (fun w' => TbE w.heap.size g k w w')
    ((repeat (first | assumption | refine TbE.drawN ?_ _ | refine TbE.draw ?_)))
    (first
      | (go_at_call 10; refine (AL.out g _ (by repeat (first | assumption | refine TbE.drawN ?_ _ | refine TbE.draw ?_))).mono ?_; rintro e' w2 ⟨rfl, h2⟩)
      | (go_at_call 20; refine (OF.out g _ (by repeat (first | assumption | refine TbE.drawN ?_ _ | refine TbE.draw ?_))).mono ?_; rintro e' w3 ⟨rfl, h3⟩)
      | (go_at_call 15; refine (SZ.out g _ (by repeat (first | assumption | refine TbE.drawN ?_ _ | refine TbE.draw ?_))).mono ?_; rintro e' w4 ⟨A4, c4, rfl, h4⟩))
  all_goals
    go_wp2_with fail
    go_ret
    exact ⟨rfl, (by first | exact h4.2.1 | exact h4.draw.2.1)⟩
end Go.Proofs.Ytcfpdflaabfdkaa
