/- A new block lies where it was made. -/
import Derived.Test.YtfmloifgngembaaSl
namespace Go.Proofs.Ytfmloifgngembaa
open Go.RowKit

theorem heap_alloc_new (w : World) (o : Obj) : (w.alloc o).heap[w.heap.size]? = some o := by
  show (w.heap.push o)[w.heap.size]? = _
  simp
end Go.Proofs.Ytfmloifgngembaa
