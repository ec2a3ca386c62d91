/- The reference's Change. -/
import Derived.Test.YtchlmmglibladaaDoorFlagChMath
import Derived.Test.YtchlmmglibladaaDoorBase
namespace Go.Proofs.YtchlmmglibladaaDoor
open Go.RowKit Go.Maps

set_option maxRecDepth 100000 in
set_option maxHeartbeats 1000000 in
theorem refChange_any (a b : Nat) (ha : a < 256) (hb : b < 256) (m : Int) (w : World) :
    Calls Tryd.prog 18 #[.int .i64 a, .int .i64 m, .int .i64 b] w fun e w' => e = .returned (.int .i64 (refO (changeO a m b))) ∧ w = w' := by
  by_cases hr : 31 < a ∨ 31 < b
  · rw [show changeO a m b = none from if_pos hr]
    by_cases h1 : 31 < a
    · clear hr
      go_enter Tryd.func18, Tryd.ntmps18
      go_wp2
      go_ret
      exact ⟨rfl, rfl⟩
    · have h2 : 31 < b := by omega
      clear hr
      go_enter Tryd.func18, Tryd.ntmps18
      go_wp2
      go_ret
      exact ⟨rfl, rfl⟩
  · have h1 : a ≤ 31 := by omega
    have h2 : b ≤ 31 := by omega
    have HC := Lib.hid (show changeO a m b = if m = 0 then some b else if m = 1 then some (a ||| b) else if m = 2 then some (a &&& (255 - b)) else none from if_neg hr)
    clear hr
    by_cases m0 : m = 0
    · subst m0
      rw [HC.out, if_pos rfl]
      clear HC
      go_enter Tryd.func18, Tryd.ntmps18
      go_wp2
      go_ret
      exact ⟨rfl, rfl⟩
    by_cases m1 : m = 1
    · subst m1
      rw [HC.out, if_neg m0, if_pos rfl]
      clear HC m0
      have R := Lib.hid (i64_or_nat a b (by omega) (by omega))
      go_enter Tryd.func18, Tryd.ntmps18
      go_wp2
      go_ret
      exact ⟨ret_int R.out, rfl⟩
    by_cases m2 : m = 2
    · subst m2
      rw [HC.out, if_neg m0, if_neg m1, if_pos rfl]
      clear HC m0 m1
      have R := Lib.hid (i64_andNot_nat a b (by omega) (by omega))
      go_enter Tryd.func18, Tryd.ntmps18
      go_wp2
      go_ret
      exact ⟨ret_int R.out, rfl⟩
    rw [HC.out, if_neg m0, if_neg m1, if_neg m2]
    clear HC
    have b0 : (m == 0) = false := by simpa using m0
    have b1 : (m == 1) = false := by simpa using m1
    have b2 : (m == 2) = false := by simpa using m2
    clear m0 m1 m2
    go_enter Tryd.func18, Tryd.ntmps18
    go_wp2
    go_ret
    exact ⟨rfl, rfl⟩
end Go.Proofs.YtchlmmglibladaaDoor
