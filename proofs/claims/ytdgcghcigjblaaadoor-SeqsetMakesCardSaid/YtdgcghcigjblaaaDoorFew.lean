/- The laws' few; a number of a set. -/
import Derived.Test.YtdgcghcigjblaaaDoorSeqJMath
import Derived.Test.YtdgcghcigjblaaaDoorEnv
namespace Go.Proofs.YtdgcghcigjblaaaDoor
open Go.RowKit

theorem few_any (A : Option Addr) (n c : Nat) (hn : n ≤ maxLen) (w : World) :
    Calls Tryd.prog 7 #[.slice A n c] w fun e w' => e = .returned (.bool (decide (n ≤ 60))) ∧ w = w' := by
  unfold maxLen at hn
  by_cases h : n ≤ 60
  all_goals
    go_enter Tryd.func7, Tryd.ntmps7
    go_wp2
    go_ret
    exact ⟨by simp [h]; omega, rfl⟩

theorem hasL_in {top n : Nat} {l : List R} (ht : top ≤ 4294967295) (h : hasL top n l = true) : 1 ≤ n ∧ n ≤ top := by
  have hv : vldL top l = true := by unfold hasL at h; rw [Bool.and_eq_true] at h; exact h.1
  have hx := (hasL_iff hv n).1 h
  obtain ⟨r, hr, h1, h2⟩ := hx
  obtain ⟨q, hq, rfl⟩ := List.mem_map.1 hr
  obtain ⟨f1, _, f3⟩ := vldL_facts hv
  obtain ⟨g1, g2⟩ := bnd_ok f1 ht (f3 q hq)
  unfold okR at g1
  omega

end Go.Proofs.YtdgcghcigjblaaaDoor
