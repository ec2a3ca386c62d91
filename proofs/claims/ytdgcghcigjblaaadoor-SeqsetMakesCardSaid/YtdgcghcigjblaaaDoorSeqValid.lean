/- seqset: the predicates of Valid and Has. -/
import Derived.Test.YtdgcghcigjblaaaDoorSeqA
import Derived.Lib.SmallJoins
namespace Go.Proofs.YtdgcghcigjblaaaDoor
open Go.RowKit

set_option maxHeartbeats 1000000 in
theorem valid1_any (top lo hi b : Nat) (w : World) (hc : w.cell? ⟨b, 0, none⟩ = some (.int .u32 (top : Int))) (hb : b < w.heap.size) :
    Calls Tryd.prog 30 #[.agg #[.int .u32 lo, .int .u32 hi], .pointer (some ⟨b, 0, none⟩)] w fun e w' =>
      e = .returned (.bool (decide (top < max lo hi))) ∧ Below w.heap.size w w' := by
  go_enter Tryd.func30, Tryd.ntmps30
  go_wp2
  all_goals
    go_ret
    refine ⟨?_, by repeat (first | exact Below.refl _ _ | refine Below.setCell ?_ (by simp) _ | refine Below.alloc ?_ (by simp) _)⟩
    congr 2
    simp
    omega

set_option maxHeartbeats 1000000 in
theorem has1_any (top n lo hi b c : Nat) (w : World) (hc : w.cell? ⟨b, 0, none⟩ = some (.int .u32 (top : Int))) (hb : b < w.heap.size) (hc2 : w.cell? ⟨c, 0, none⟩ = some (.int .u32 (n : Int))) (hb2 : c < w.heap.size) :
    Calls Tryd.prog 35 #[.agg #[.int .u32 lo, .int .u32 hi], .pointer (some ⟨b, 0, none⟩), .pointer (some ⟨c, 0, none⟩)] w fun e w' =>
      e = .returned (.bool (hasR top n (lo, hi))) ∧ Below w.heap.size w w' := by
  have B := fun w1 => Lib.hid (bounds_any top lo hi w1)
  unfold hasR
  generalize bndN top (lo, hi) = r at *
  obtain ⟨x, y⟩ := r
  go_enter Tryd.func35, Tryd.ntmps35
  go_wp2_with fail
  refine (B _).out.mono ?_
  rintro e w1 ⟨rfl, h1⟩
  have hs := h1.size
  simp only [World.size_alloc] at hs
  have hc3 : w1.cell? ⟨c, 0, none⟩ = some (.int .u32 (n : Int)) := (h1.cell (p := ⟨c, 0, none⟩) (by simp; omega)).trans ((World.cell?_alloc_lt _ _ ⟨c, 0, none⟩ hb2).trans hc2)
  have hl : c < w1.heap.size := by omega
  clear B hc hc2
  have hB : Below w.heap.size w w1 := ((Below.refl _ _).alloc (Nat.le_refl _) _).trans (h1.mono (by simp))
  clear h1
  by_cases t1 : x ≤ n <;> by_cases t2 : n ≤ y
  all_goals
    go_wp2_with fail
    go_ret
    refine ⟨by simp [t1, t2], by repeat (first | exact hB | refine Below.setCell ?_ (by simp; omega) _ | refine Below.alloc ?_ (by omega) _)⟩
end Go.Proofs.YtdgcghcigjblaaaDoor
