/- Rows of numbers: small facts. -/
import Derived.Test.YtfmloifgngembaaAppend
import Derived.Test.YtfmloifgngembaaKeeps
import Derived.Test.YtfmloifgngembaaSeqMath
namespace Go.Proofs.Ytfmloifgngembaa
open Go.RowKit

theorem infoU : (Try.prog.info? 23).map (fun i => (i.zero, i.size, i.bytes)) = some (some (.int .u32 0), 1, 4) := by kernel_rfl
/-- The cell of a number. -/
theorem SlAt.one {w : World} {A : Option Addr} {l : List Nat} (h : SlAt encU 1 w A l) {j : Nat} (hj : j < l.length) :
    ∃ b off, A = some ⟨b, off, none⟩ ∧ b < w.heap.size ∧ w.cell? ⟨b, off + j, none⟩ = some (.int .u32 (l[j] : Int)) := by
  obtain ⟨b, off, hA, hb, hc⟩ := h.at_ hj
  exact ⟨b, off, hA, hb, by simpa using hc 0 _ rfl⟩
theorem info_parts {T : TypeId} {z : Option Value} {s b : Nat} (h : (Try.prog.info? T).map (fun i => (i.zero, i.size, i.bytes)) = some (z, s, b)) :
    ∃ i, Try.prog.info? T = some i ∧ i.zero = z ∧ i.size = s ∧ i.bytes = b := by
  cases hi : Try.prog.info? T with
  | none => rw [hi] at h; cases h
  | some i =>
    rw [hi] at h
    simp at h
    exact ⟨i, rfl, h.1, h.2.1, h.2.2⟩
theorem one_flatU (l : List Nat) : ∀ u ∈ flatL encU l, u.oneCell' = true := by
  intro u hu
  unfold flatL at hu
  obtain ⟨r, _, hr⟩ := List.mem_flatMap.1 hu
  simp [encU] at hr
  subst hr
  rfl

end Go.Proofs.Ytfmloifgngembaa
