/- A row of strings. -/
import Derived.Test.YtpgfnlhfciacoaaGreatDoorGa
namespace Go.Proofs.YtpgfnlhfciacoaaGreatDoor
open Go.RowKit

/-- A string's cells. -/
def encS (x : List UInt8) : List Value := [.string ⟨x.toArray⟩]
theorem encS_len (x : List UInt8) : (encS x).length = 1 := rfl
theorem infoS : (Tryz.prog.info? 9).map (fun i => (i.zero, i.size, i.bytes)) = some (some (.string ⟨#[]⟩), 1, 16) := by kernel_rfl
end Go.Proofs.YtpgfnlhfciacoaaGreatDoor
