/- A call, in its two cells. -/
import Derived.Test.YtkehlknnonppjaaSl
namespace Go.Proofs.Ytkehlknnonppjaa
open Go.RowKit

/-- A call: its kind, its identifier. -/
def encO (x : Int × Nat) : List Value := [.int .i64 x.1, .int .u32 (x.2 : Int)]
theorem SlAt.op {w : World} {A : Option Addr} {l : List (Int × Nat)} (h : SlAt encO 2 w A l) {j : Nat} (hj : j < l.length) :
    ∃ b off, A = some ⟨b, off, none⟩ ∧ b < w.heap.size ∧ w.cell? ⟨b, off + j * 2, none⟩ = some (.int .i64 l[j].1) ∧ w.cell? ⟨b, off + j * 2 + 1, none⟩ = some (.int .u32 (l[j].2 : Int)) := by
  obtain ⟨b, off, hA, hb, hc⟩ := h.at_ hj
  exact ⟨b, off, hA, hb, by simpa using hc 0 _ rfl, hc 1 _ rfl⟩
end Go.Proofs.Ytkehlknnonppjaa
