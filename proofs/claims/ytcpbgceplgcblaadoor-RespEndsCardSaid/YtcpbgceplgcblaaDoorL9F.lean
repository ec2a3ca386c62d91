/- One response is few. -/
import Derived.Test.YtcpbgceplgcblaaDoorRsFew
namespace Go.Proofs.YtcpbgceplgcblaaDoor
open Go.RowKit

theorem few_one (x : RX) : fewRs [x] = fewR x.r := by simp [fewRs]
end Go.Proofs.YtcpbgceplgcblaaDoor
