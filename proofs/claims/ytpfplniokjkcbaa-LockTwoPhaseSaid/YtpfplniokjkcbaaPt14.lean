/- A slice of slices of bytes, as an argument. -/
import Derived.Test.YtpfplniokjkcbaaBy
namespace Go.Proofs.Ytpfplniokjkcbaa
open Go.RowKit

def PtK (W : World) (A : Option Addr) (ls : List (List UInt8)) : Prop :=
  ls = [] ∨ ∃ b off, A = some ⟨b, off, none⟩ ∧ b < W.heap.size ∧ ∀ j (hj : j < ls.length), ls[j].length ≤ maxLen ∧ ∃ Aj cj, W.cell? ⟨b, off + j, none⟩ = some (.slice Aj ls[j].length cj) ∧ ByAt W.heap.size W Aj cj ls[j]
theorem PtK.at_ {W W' : World} {A : Option Addr} {ls : List (List UInt8)} (h : PtK W A ls) (hb : Below W.heap.size W W') {j : Nat} (hj : j < ls.length) :
    ∃ b off Aj cj, A = some ⟨b, off, none⟩ ∧ W'.cell? ⟨b, off + j, none⟩ = some (.slice Aj ls[j].length cj) ∧ ByAt W.heap.size W' Aj cj ls[j] ∧ ls[j].length ≤ maxLen := by
  rcases h with rfl | ⟨b, off, hA, hlt, hc⟩
  · simp at hj
  · obtain ⟨h1, Aj, cj, h2, h3⟩ := hc j hj
    exact ⟨b, off, Aj, cj, hA, (hb.cell (p := ⟨b, off + j, none⟩) hlt).trans h2, h3.below hb, h1⟩
end Go.Proofs.Ytpfplniokjkcbaa
