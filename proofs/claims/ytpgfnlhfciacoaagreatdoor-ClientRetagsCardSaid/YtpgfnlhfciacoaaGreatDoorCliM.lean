/- A text with its end: what the splitter finds there. No walk. -/
import Derived.Test.YtpgfnlhfciacoaaGreatDoorSent
import Derived.Test.YtpgfnlhfciacoaaGreatDoorGh
namespace Go.Proofs.YtpgfnlhfciacoaaGreatDoor

theorem step_suf {R R' : List UInt8} {k k' : Nat} {f : Fr} (h : stepF R k = some (f, R', k')) : ∃ j, R' = R.drop j := by
  unfold stepF at h
  cases he : endOf R k with
  | none => rw [he] at h; cases h
  | some e =>
    rw [he] at h
    simp only at h
    split at h
    · injection h with h; injection h with _ h; injection h with h _
      exact ⟨_, h.symm⟩
    · split at h
      · injection h with h; injection h with _ h; injection h with h _
        exact ⟨_, h.symm⟩
      · split at h
        · injection h with h; injection h with _ h; injection h with h _
          exact ⟨_, h.symm⟩
        · injection h with h; injection h with _ h; injection h with h _
          exact ⟨0, by rw [← h]; rfl⟩
theorem runs_suf {R R' : List UInt8} {k k' : Nat} {fs : List Fr} (h : Runs R k fs R' k') : ∃ j, R' = R.drop j := by
  induction h with
  | nil => exact ⟨0, rfl⟩
  | cons hs _ ih =>
    obtain ⟨j, rfl⟩ := step_suf hs
    obtain ⟨i, hi⟩ := ih
    exact ⟨j + i, by rw [hi, List.drop_drop]⟩
theorem mark_end (X : List UInt8) : Mark (X ++ [13, 10]) X.length := by
  unfold Mark
  constructor <;> simp
/-- Nothing that waits behind a line's end is a long line. -/
theorem short_crlf (T : List UInt8) : Short (T ++ [13, 10]) := by
  intro fs R k hr he
  obtain ⟨j, rfl⟩ := runs_suf hr
  by_cases hj : j ≤ T.length
  · rw [List.drop_append_of_le_length hj] at he ⊢
    rw [endOf_none] at he
    have h := mark_end (T.drop j)
    by_cases hk : k ≤ (T.drop j).length
    · exact absurd h (he _ hk)
    · rw [List.length_append]
      simp only [List.length_cons, List.length_nil]
      omega
  · rw [List.length_drop, List.length_append]
    simp only [List.length_cons, List.length_nil]
    omega
theorem some_frame {T R : List UInt8} {k : Nat} {fs : List Fr} (h : Runs (T ++ [13, 10]) 0 fs R k) (d : Done R k) : 0 < fs.length := by
  cases h with
  | nil =>
    unfold Done at d
    rw [endOf_none] at d
    exact absurd (mark_end T) (d _ (Nat.zero_le _))
  | cons _ _ => simp
end Go.Proofs.YtpgfnlhfciacoaaGreatDoor
