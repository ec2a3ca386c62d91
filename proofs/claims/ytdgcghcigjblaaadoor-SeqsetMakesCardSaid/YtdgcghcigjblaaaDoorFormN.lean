/- The form of a number. -/
import Derived.Test.YtdgcghcigjblaaaDoorDecMath
import Derived.Test.YtdgcghcigjblaaaDoorSeqMath
namespace Go.Proofs.YtdgcghcigjblaaaDoor
open Go.RowKit
open Go.Lib hiding intOf

/-- The form of a number. -/
def formN (n : Nat) : List UInt8 := if n = 0 then [42] else decDigits n
theorem formN_len {n : Nat} (h : n ≤ 4294967295) : (formN n).length ≤ 10 ∧ 1 ≤ (formN n).length := by
  unfold formN
  split
  · simp
  · refine ⟨dec_len h, ?_⟩
    rw [decDigits_length]
    unfold nDigits
    split <;> omega

end Go.Proofs.YtdgcghcigjblaaaDoor
