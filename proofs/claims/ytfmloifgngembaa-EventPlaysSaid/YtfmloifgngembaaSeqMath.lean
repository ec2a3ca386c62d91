/- Sets of ranges: plain mathematics, no program. -/
import Derived.WalkKit
namespace Go.Proofs.Ytfmloifgngembaa
open Go.RowKit

/-- A range: its Lo and its Hi. -/
abbrev R := Nat × Nat
def encR (r : R) : List Value := [.int .u32 (r.1 : Int), .int .u32 (r.2 : Int)]
theorem encR_len (x : R) : (encR x).length = 2 := rfl
theorem encR_one (x : R) : ∀ v ∈ encR x, v.oneCell' = true := by intro v hv; simp [encR] at hv; rcases hv with rfl | rfl <;> rfl
/-- A number, one cell. -/
def encU (n : Nat) : List Value := [.int .u32 (n : Int)]
theorem encU_len (x : Nat) : (encU x).length = 1 := rfl

def realN (top n : Nat) : Nat := if n = 0 then top else n
def bndN (top : Nat) (r : R) : R := (min (realN top r.1) (realN top r.2), max (realN top r.1) (realN top r.2))
/-- A set is valid for top. -/
def vldL (top : Nat) (l : List R) : Bool := decide (0 < top) && !l.isEmpty && l.all fun r => decide (max r.1 r.2 ≤ top)
def hasR (top n : Nat) (r : R) : Bool := decide ((bndN top r).1 ≤ n) && decide (n ≤ (bndN top r).2)
def hasL (top n : Nat) (l : List R) : Bool := vldL top l && l.any (hasR top n)
end Go.Proofs.Ytfmloifgngembaa
