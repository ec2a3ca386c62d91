/- Layer 14 in plain words: what an owner holds behind Acquire and Release. No walk. -/
import Derived.Test.YtpfplniokjkcbaaLk
import Derived.Test.YtpfplniokjkcbaaIsSet
namespace Go.Proofs.Ytpfplniokjkcbaa
open Go.RowKit

theorem ownL_set {L : List Int} {k : Nat} {o : Int} (hk : k < L.length) (x : Int) : ownL (L.set k o) x = if x = (k : Int) then o else ownL L x := by
  by_cases e : x = (k : Int)
  · subst e
    rw [if_pos rfl, ownL_at (by rw [List.length_set]; exact hk), List.getElem_set_self]
  · rw [if_neg e]
    unfold ownL
    by_cases h : x < 0
    · rw [if_pos h, if_pos h]
    · rw [if_neg h, if_neg h, List.getElem?_set_ne (by omega)]
theorem ownL_lt {L : List Int} {x : Int} (h : 0 ≤ ownL L x) : 0 ≤ x ∧ x < (L.length : Int) := by
  by_cases e : x < 0 ∨ (L.length : Int) ≤ x
  · rw [ownL_out e] at h
    omega
  · omega
theorem mem_held {L : List Int} {o : Int} (ho : 0 ≤ o) {i : Nat} : i ∈ heldL L o ↔ ownL L (i : Int) = o := by
  rw [mem_heldL]
  constructor
  · rintro ⟨_, h, e⟩
    rw [ownL_at h, e]
  · intro e
    have h := (ownL_lt (L := L) (x := (i : Int)) (by omega)).2
    have h : i < L.length := by omega
    rw [ownL_at h] at e
    exact ⟨ho, h, e⟩
theorem heldL_neg {L : List Int} {o : Int} (ho : o < 0) : heldL L o = [] := by unfold heldL; rw [if_pos ho]
/-- What an owner holds that acquires a lock. -/
theorem heldL_acq {L : List Int} {o : Int} {k : Nat} (ho : 0 ≤ o) (hk : k < L.length) (h1 : ownL L k ≠ o) (h2 : ¬ overL L o k) : heldL (L.set k o) o = heldL L o ++ [k] := by
  refine asc_unique (heldL_asc _ _) (List.pairwise_append.2 ⟨heldL_asc _ _, List.pairwise_singleton _ _, fun y hy z hz => ?_⟩) fun n => ?_
  · obtain rfl : z = k := by simpa using hz
    have h3 : ¬ ((z : Int) < (y : Int)) := fun e => h2 ⟨y, hy, e⟩
    have h4 : y ≠ z := by
      rintro rfl
      exact h1 ((mem_held ho).1 hy)
    omega
  · rw [mem_held ho, ownL_set hk, List.mem_append, mem_held ho]
    constructor
    · intro h
      split at h
      · next e => exact .inr (by have : n = k := by omega
                                 simp [this])
      · exact .inl h
    · rintro (h | h)
      · split
        · rfl
        · exact h
      · obtain rfl : n = k := by simpa using h
        rw [if_pos rfl]
/-- .. and the others. -/
theorem heldL_oth {L : List Int} {o p : Int} {k : Nat} (hk : k < L.length) (h1 : ownL L k < 0) (hp : p ≠ o) : heldL (L.set k o) p = heldL L p := by
  by_cases h0 : p < 0
  · rw [heldL_neg h0, heldL_neg h0]
  · have h0 : 0 ≤ p := by omega
    refine asc_unique (heldL_asc _ _) (heldL_asc _ _) fun n => ?_
    rw [mem_held h0, mem_held h0, ownL_set hk]
    split
    · next e =>
      obtain rfl : n = k := by omega
      constructor
      · intro e2
        exact absurd e2.symm hp
      · intro e2
        omega
    · exact Iff.rfl
theorem ownL_rel (L : List Int) (o x : Int) : ownL (relL L o) x = if ownL L x = o ∧ 0 ≤ o then -1 else ownL L x := by
  by_cases e : x < 0 ∨ (L.length : Int) ≤ x
  · rw [ownL_out (by unfold relL; rw [List.length_map]; exact e), ownL_out e]
    split <;> rfl
  · obtain ⟨k, rfl⟩ : ∃ k : Nat, x = k := ⟨x.toNat, by omega⟩
    have hk : k < L.length := by omega
    have hk2 : k < (relL L o).length := by unfold relL; rw [List.length_map]; exact hk
    rw [ownL_at hk2, ownL_at hk]
    simp [relL]
theorem heldL_rel (L : List Int) (o p : Int) : heldL (relL L o) p = if p = o then [] else heldL L p := by
  by_cases h0 : p < 0
  · rw [heldL_neg h0, heldL_neg h0]
    split <;> rfl
  · have h0 : 0 ≤ p := by omega
    by_cases e : p = o
    · subst e
      rw [if_pos rfl]
      refine List.eq_nil_iff_forall_not_mem.2 fun n hn => ?_
      rw [mem_held h0, ownL_rel] at hn
      split at hn
      · omega
      · next h => exact h ⟨hn, h0⟩
    · rw [if_neg e]
      refine asc_unique (heldL_asc _ _) (heldL_asc _ _) fun n => ?_
      rw [mem_held h0, mem_held h0, ownL_rel]
      split
      · next h =>
        constructor
        · intro h2
          omega
        · intro h2
          omega
      · exact Iff.rfl
theorem freeL_iff {L : List Int} : freeL L = true ↔ ∀ x : Int, ownL L x < 0 := by
  unfold freeL
  rw [List.all_eq_true]
  constructor
  · intro h x
    by_cases e : x < 0 ∨ (L.length : Int) ≤ x
    · rw [ownL_out e]; omega
    · obtain ⟨k, rfl⟩ : ∃ k : Nat, x = k := ⟨x.toNat, by omega⟩
      have hk : k < L.length := by omega
      rw [ownL_at hk]
      exact of_decide_eq_true (h _ (List.getElem_mem hk))
  · intro h x hx
    obtain ⟨k, hk, rfl⟩ := List.mem_iff_getElem.1 hx
    have := h (k : Int)
    rw [ownL_at hk] at this
    exact decide_eq_true this
theorem ownL_rep (n : Nat) (x : Int) : ownL (List.replicate n (-1)) x < 0 := by
  by_cases e : x < 0 ∨ ((List.replicate n (-1 : Int)).length : Int) ≤ x
  · rw [ownL_out e]; omega
  · obtain ⟨k, rfl⟩ : ∃ k : Nat, x = k := ⟨x.toNat, by omega⟩
    have hk : k < (List.replicate n (-1 : Int)).length := by omega
    rw [ownL_at hk, List.getElem_replicate]
    omega
theorem heldL_rep (n : Nat) (o : Int) : heldL (List.replicate n (-1)) o = [] := by
  by_cases h0 : o < 0
  · exact heldL_neg h0
  · refine List.eq_nil_iff_forall_not_mem.2 fun k hk => ?_
    have := (mem_held (by omega)).1 hk
    have := ownL_rep n (k : Int)
    omega
end Go.Proofs.Ytpfplniokjkcbaa
