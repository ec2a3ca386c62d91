/- cmp.Compare of numbers; the order of join. -/
import Derived.Test.YtdgcghcigjblaaaDoorEnv
import Derived.Test.YtdgcghcigjblaaaDoorSeqMath
import Derived.Shelf.SlSortCmp.WholeK
namespace Go.Proofs.YtdgcghcigjblaaaDoor
open Go.RowKit Go.Sort
open Go.Shelf

theorem isNaN_any (x : Nat) (w : World) :
    Calls Tryd.prog 58 #[.int .u32 x] w fun e w' => e = .returned (.bool false) ∧ w' = w := by
  go_enter Tryd.func58, Tryd.ntmps58
  go_wp2
  go_ret
  exact ⟨by simp, rfl⟩

set_option maxHeartbeats 1000000 in
theorem compare_any (x y : Nat) (w : World) :
    Calls Tryd.prog 48 #[.int .u32 x, .int .u32 y] w fun e w' => e = .returned (.int .i64 (Lib.compareInt x y)) ∧ w' = w := by
  go_enter Tryd.func48, Tryd.ntmps48
  go_wp2_with (go_at_call 58; refine (isNaN_any _ _).mono ?_; rintro e w' ⟨rfl, hw⟩; rw [hw])
  all_goals (go_ret; refine ⟨?_, rfl⟩; unfold Lib.compareInt; (repeat' split) <;> first | rfl | (exfalso; omega))

/-- The order by Lo. -/
def cmpLo (x y : R) : Int := Lib.compareInt x.1 y.1

set_option maxHeartbeats 1000000 in
theorem join1_any (x y : R) (W : World) :
    Calls Tryd.prog 47 #[.agg #[.int .u32 x.1, .int .u32 x.2], .agg #[.int .u32 y.1, .int .u32 y.2]] W fun e w' => e = .returned (.int .i64 (cmpLo x y)) ∧ ∃ q os', w' = Sort.grow (W.drewN q) os' := by
  have hcon := fun W' => Lib.hid (compare_any x.1 y.1 W')
  unfold cmpLo
  generalize Lib.compareInt x.1 y.1 = r at hcon ⊢
  go_enter Tryd.func47, Tryd.ntmps47
  go_wp2_with fail
  refine (hcon _).out.mono ?_
  rintro e w' ⟨rfl, rfl⟩
  go_wp2_with fail
  go_ret
  exact ⟨rfl, 0, _, by rw [alloc_eq_grow, alloc_eq_grow, grow_grow]; rfl⟩

theorem cmpLays (blk off size : Nat) (w : World) : CmpLays Tryd.prog 47 #[] encR 2 cmpLo blk off size w :=
  fun _ _ _ _ x y => join1_any x y _

theorem ltLo (x y : R) : ltOf cmpLo x y = decide (x.1 < y.1) := by
  unfold ltOf cmpLo Lib.compareInt
  by_cases h1 : x.1 < y.1
  · simp [h1]
  · by_cases h2 : y.1 < x.1 <;> simp [h1, h2] <;> omega

theorem swoLo : SWO (ltOf cmpLo) where
  irrefl x := by rw [ltLo]; simp
  trans x y z h1 h2 := by rw [ltLo] at *; simp at *; omega
  ntrans x y z h1 h2 := by rw [ltLo] at *; simp at *; omega
end Go.Proofs.YtdgcghcigjblaaaDoor
