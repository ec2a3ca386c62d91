/- The reference's names of flags. -/
import Derived.Test.YthfopimgdikpgaaGreatDoorGa
import Derived.Test.YthfopimgdikpgaaGreatDoorGt
namespace Go.Proofs.YthfopimgdikpgaaGreatDoor
open Go.RowKit

set_option maxRecDepth 100000 in
theorem refFName_any (n : Nat) (w : World) :
    Calls Tryz.prog 91 #[.int .i64 n] w fun e w' => e = .returned (.string ⟨(nameF n).toArray⟩) ∧ w = w' := by
  by_cases h1 : n = 1
  · subst h1
    go_enter Tryz.func91, Tryz.ntmps91
    go_wp2
    go_ret
    exact ⟨rfl, rfl⟩
  by_cases h2 : n = 2
  · subst h2
    go_enter Tryz.func91, Tryz.ntmps91
    go_wp2
    go_ret
    exact ⟨rfl, rfl⟩
  by_cases h4 : n = 4
  · subst h4
    go_enter Tryz.func91, Tryz.ntmps91
    go_wp2
    go_ret
    exact ⟨rfl, rfl⟩
  by_cases h8 : n = 8
  · subst h8
    go_enter Tryz.func91, Tryz.ntmps91
    go_wp2
    go_ret
    exact ⟨rfl, rfl⟩
  by_cases h16 : n = 16
  · subst h16
    go_enter Tryz.func91, Tryz.ntmps91
    go_wp2
    go_ret
    exact ⟨rfl, rfl⟩
  have R := Lib.hid (show nameF n = [] by unfold nameF; rw [if_neg h1, if_neg h2, if_neg h4, if_neg h8, if_neg h16])
  have b1 : ((n : Int) == 1) = false := by simp; omega
  have b2 : ((n : Int) == 2) = false := by simp; omega
  have b4 : ((n : Int) == 4) = false := by simp; omega
  have b8 : ((n : Int) == 8) = false := by simp; omega
  have b16 : ((n : Int) == 16) = false := by simp; omega
  go_enter Tryz.func91, Tryz.ntmps91
  go_wp2
  go_ret
  exact ⟨by rw [R.out]; rfl, rfl⟩
end Go.Proofs.YthfopimgdikpgaaGreatDoor
