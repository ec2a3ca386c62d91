/- seqset: point, bounds. -/
import Derived.Test.YtdgcghcigjblaaaDoorEnv
import Derived.Test.YtdgcghcigjblaaaDoorSeqMath
namespace Go.Proofs.YtdgcghcigjblaaaDoor
open Go.RowKit

theorem point_any (n : Nat) (w : World) :
    Calls Tryd.prog 37 #[.int .u32 n] w fun e w' => e = .returned (.agg #[.int .u32 n, .int .u32 n]) ∧ Below w.heap.size w w' := by
  go_enter Tryd.func37, Tryd.ntmps37
  go_wp2
  exact bodyPost_ret (v := .agg #[.int .u32 n, .int .u32 n]) (by simp [results, Tryd.results37, go_sem]) rfl ⟨rfl, by repeat (first | exact Below.refl _ _ | refine Below.setCell ?_ (by simp) _ | refine Below.alloc ?_ (by simp) _)⟩

set_option maxHeartbeats 1000000 in
theorem bounds_any (top lo hi : Nat) (w : World) :
    Calls Tryd.prog 32 #[.int .u32 top, .agg #[.int .u32 lo, .int .u32 hi]] w fun e w' =>
      e = .returned (.agg #[.int .u32 (bndN top (lo, hi)).1, .int .u32 (bndN top (lo, hi)).2]) ∧ Below w.heap.size w w' := by
  unfold bndN realN
  by_cases h1 : lo = 0 <;> by_cases h2 : hi = 0
  all_goals simp only [h1, h2, if_true, if_false]
  · subst h1; subst h2
    go_enter Tryd.func32, Tryd.ntmps32
    go_wp2
    all_goals
      refine bodyPost_ret ?r rfl ⟨rfl, ?b⟩
      case r => simp [results, Tryd.results32, go_sem]
      case b => repeat (first | exact Below.refl _ _ | refine Below.setCell ?_ (by simp) _ | refine Below.alloc ?_ (by simp) _)
  · subst h1
    go_enter Tryd.func32, Tryd.ntmps32
    go_wp2
    all_goals
      refine bodyPost_ret ?r rfl ⟨rfl, ?b⟩
      case r => simp [results, Tryd.results32, go_sem]; omega
      case b => repeat (first | exact Below.refl _ _ | refine Below.setCell ?_ (by simp) _ | refine Below.alloc ?_ (by simp) _)
  · subst h2
    have h3 : ¬ (lo : Int) = 0 := by omega
    go_enter Tryd.func32, Tryd.ntmps32
    go_wp2
    all_goals
      refine bodyPost_ret ?r rfl ⟨rfl, ?b⟩
      case r => simp [results, Tryd.results32, go_sem]; omega
      case b => repeat (first | exact Below.refl _ _ | refine Below.setCell ?_ (by simp) _ | refine Below.alloc ?_ (by simp) _)
  · have h3 : ¬ (lo : Int) = 0 := by omega
    go_enter Tryd.func32, Tryd.ntmps32
    go_wp2
    all_goals
      refine bodyPost_ret ?r rfl ⟨rfl, ?b⟩
      case r => simp [results, Tryd.results32, go_sem]; omega
      case b => repeat (first | exact Below.refl _ _ | refine Below.setCell ?_ (by simp) _ | refine Below.alloc ?_ (by simp) _)
end Go.Proofs.YtdgcghcigjblaaaDoor
