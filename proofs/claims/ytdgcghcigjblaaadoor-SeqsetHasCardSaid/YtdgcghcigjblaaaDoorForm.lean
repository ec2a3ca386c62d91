/- The form of a number: the reference's. -/
import Derived.Test.YtdgcghcigjblaaaDoorRefDec
import Derived.Test.YtdgcghcigjblaaaDoorSeqMath
namespace Go.Proofs.YtdgcghcigjblaaaDoor
open Go.RowKit
open Go.Lib hiding intOf

/-- The form of a number. -/
def formN (n : Nat) : List UInt8 := if n = 0 then [42] else decDigits n
theorem formN_len {n : Nat} (h : n ≤ 4294967295) : (formN n).length ≤ 10 ∧ 1 ≤ (formN n).length := by
  unfold formN
  split
  · simp
  · refine ⟨dec_len h, ?_⟩
    rw [decDigits_length]
    unfold nDigits
    split <;> omega

set_option maxHeartbeats 400000 in
theorem refForm_any (n : Nat) (hn : n ≤ 4294967295) (w : World) :
    Calls Tryd.prog 29 #[.int .u32 n] w fun e w' => e = .returned (.string ⟨(formN n).toArray⟩) ∧ w = w' := by
  unfold formN
  by_cases h0 : n = 0
  · subst h0
    go_enter Tryd.func29, Tryd.ntmps29
    go_wp2
    go_ret
    exact ⟨rfl, rfl⟩
  · have D := Lib.hid (refDecimal_any n hn w)
    rw [if_neg h0]
    generalize decDigits n = d at *
    have h3 : ¬ (n : Int) = 0 := by omega
    go_enter Tryd.func29, Tryd.ntmps29
    go_wp2_with fail
    refine D.out.mono ?_
    rintro e w1 ⟨rfl, rfl⟩
    go_wp2_with fail
    go_ret
    exact ⟨rfl, rfl⟩

end Go.Proofs.YtdgcghcigjblaaaDoor
