/- Layer 14 in plain words: locks as a list of their owners (-1: free). No walk. -/
import Derived.Test.YtpfplniokjkcbaaNumB
import Derived.Test.YtpfplniokjkcbaaBy
import Derived.Test.YtpfplniokjkcbaaRegB
namespace Go.Proofs.Ytpfplniokjkcbaa
open Go.RowKit

def encI (x : Int) : List Value := [.int .i64 x]
theorem encI_len (x : Int) : (encI x).length = 1 := rfl
theorem one_flatI (l : List Int) : ∀ u ∈ flatL encI l, u.oneCell' = true := by
  intro u hu
  obtain ⟨r, _, hr⟩ := List.mem_flatMap.1 hu
  simp [encI] at hr
  subst hr
  rfl
theorem SlAt.int {w : World} {A : Option Addr} {l : List Int} (h : SlAt encI 1 w A l) {j : Nat} (hj : j < l.length) :
    ∃ b off, A = some ⟨b, off, none⟩ ∧ b < w.heap.size ∧ w.cell? ⟨b, off + j, none⟩ = some (.int .i64 l[j]) := by
  obtain ⟨b, off, hA, hb, hc⟩ := h.at_ hj
  exact ⟨b, off, hA, hb, by simpa using hc 0 _ rfl⟩
theorem infoI14 : (Try.prog.info? 3).map (fun i => (i.zero, i.size, i.bytes)) = some (some (.int .i64 0), 1, 8) := by kernel_rfl
def encK (n : Nat) : List Value := [.int .i64 (n : Int)]
theorem encK_len (x : Nat) : (encK x).length = 1 := rfl
theorem one_flatK (l : List Nat) : ∀ u ∈ flatL encK l, u.oneCell' = true := by
  intro u hu
  obtain ⟨r, _, hr⟩ := List.mem_flatMap.1 hu
  simp [encK] at hr
  subst hr
  rfl

/-- The owner of a lock, or -1. -/
def ownL (L : List Int) (k : Int) : Int := if k < 0 then -1 else (L[k.toNat]?).getD (-1)
theorem ownL_at {L : List Int} {k : Nat} (h : k < L.length) : ownL L k = L[k] := by
  unfold ownL
  rw [if_neg (by omega), Int.toNat_natCast, List.getElem?_eq_getElem h]
  rfl
theorem ownL_out {L : List Int} {k : Int} (h : k < 0 ∨ (L.length : Int) ≤ k) : ownL L k = -1 := by
  unfold ownL
  split
  · rfl
  · rw [List.getElem?_eq_none (by omega)]
    rfl
/-- The first k locks that an owner holds. -/
def heldK (L : List Int) (o : Int) (k : Nat) : List Nat := (List.range k).filter fun i => decide (ownL L i = o)
/-- The locks of an owner, in order. -/
def heldL (L : List Int) (o : Int) : List Nat := if o < 0 then [] else heldK L o L.length
theorem heldK_succ {L : List Int} {o : Int} {k : Nat} (h : k < L.length) : heldK L o (k + 1) = if L[k] = o then heldK L o k ++ [k] else heldK L o k := by
  unfold heldK
  rw [List.range_succ, List.filter_append]
  by_cases e : L[k] = o
  · rw [if_pos e, List.filter_cons_of_pos (by simpa [ownL_at h] using e), List.filter_nil]
  · rw [if_neg e, List.filter_cons_of_neg (by simpa [ownL_at h] using e), List.filter_nil, List.append_nil]
theorem heldK_len (L : List Int) (o : Int) (k : Nat) : (heldK L o k).length ≤ k := by
  have := List.length_filter_le (fun i : Nat => decide (ownL L (i : Int) = o)) (List.range k)
  rwa [List.length_range] at this
theorem heldL_len (L : List Int) (o : Int) : (heldL L o).length ≤ L.length := by
  unfold heldL
  split
  · exact Nat.zero_le _
  · exact heldK_len _ _ _
theorem heldL_asc (L : List Int) (o : Int) : (heldL L o).Pairwise (· < ·) := by
  unfold heldL
  split
  · exact .nil
  · exact List.pairwise_lt_range.filter _
theorem mem_heldL {L : List Int} {o : Int} {i : Nat} : i ∈ heldL L o ↔ 0 ≤ o ∧ ∃ h : i < L.length, L[i] = o := by
  unfold heldL
  by_cases e : o < 0
  · rw [if_pos e]
    simp
    omega
  · rw [if_neg e]
    unfold heldK
    rw [List.mem_filter, List.mem_range]
    constructor
    · rintro ⟨h1, h2⟩
      exact ⟨by omega, h1, by simpa [ownL_at h1] using h2⟩
    · rintro ⟨_, h1, h2⟩
      exact ⟨h1, by simpa [ownL_at h1] using h2⟩
/-- The owner holds a lock with a greater number. -/
def overL (L : List Int) (o k : Int) : Prop := ∃ i ∈ heldL L o, k < (i : Int)
instance (L : List Int) (o k : Int) : Decidable (overL L o k) := by unfold overL; infer_instance
theorem overL_last {L : List Int} {o k : Int} : overL L o k ↔ ∃ h : heldL L o ≠ [], k < (((heldL L o).getLast h : Nat) : Int) := by
  constructor
  · rintro ⟨i, hi, hk⟩
    have hne : heldL L o ≠ [] := List.ne_nil_of_mem hi
    refine ⟨hne, ?_⟩
    have hle : i ≤ (heldL L o).getLast hne := by
      obtain ⟨j, hj, rfl⟩ := List.mem_iff_getElem.1 hi
      rw [List.getLast_eq_getElem]
      rcases Nat.lt_or_ge j ((heldL L o).length - 1) with h | h
      · exact Nat.le_of_lt (List.pairwise_iff_getElem.1 (heldL_asc L o) j _ hj (by omega) h)
      · have : j = (heldL L o).length - 1 := by omega
        subst this
        exact Nat.le_refl _
    omega
  · rintro ⟨h, hk⟩
    exact ⟨_, List.getLast_mem h, hk⟩
/-- What Acquire does: the owners, the code. -/
def acqL (L : List Int) (o k : Int) : List Int × Int :=
  if o < 0 ∨ k < 0 ∨ (L.length : Int) ≤ k then (L, 2) else if ownL L k = o then (L, 8) else if overL L o k then (L, 10) else if 0 ≤ ownL L k then (L, 9) else (L.set k.toNat o, 0)
theorem acqL_len (L : List Int) (o k : Int) : (acqL L o k).1.length = L.length := by
  unfold acqL
  split
  · rfl
  · split
    · rfl
    · split
      · rfl
      · split
        · rfl
        · simp
/-- What Release leaves. -/
def relL (L : List Int) (o : Int) : List Int := L.map fun x => if x = o ∧ 0 ≤ o then -1 else x
/-- Whether all locks are free. -/
def freeL (L : List Int) : Bool := L.all fun x => decide (x < 0)
/-- Whether the first lock of a list that the owner does not hold is held by another. -/
def blkL (L : List Int) (o : Int) : List Int → Bool
  | [] => false
  | k :: l => if ownL L k ≠ o ∨ ownL L k < 0 then decide (0 ≤ ownL L k) else blkL L o l
end Go.Proofs.Ytpfplniokjkcbaa
