/- The frames of a stream of commands, read. No walk. -/
import Derived.Test.YtpgfnlhfciacoaaGreatDoorKg
import Derived.Test.YtpgfnlhfciacoaaGreatDoorGx
import Derived.Test.YtpgfnlhfciacoaaGreatDoorKh
namespace Go.Proofs.YtpgfnlhfciacoaaGreatDoor

theorem step_kind {R R' : List UInt8} {k k' : Nat} {f : Fr} (h : stepF R k = some (f, R', k')) : (f.kind = 2 ∧ R' = R) ∨ R'.length + 2 ≤ R.length := by
  have hk := (stepF_lt h).1
  unfold stepF at h
  cases he : endOf R k with
  | none => rw [he] at h; cases h
  | some e =>
    rw [he] at h
    simp only at h
    split at h
    · injection h with h; injection h with h1 h2; injection h2 with h2 h3
      refine .inr ?_
      rw [← h2, List.length_drop]
      omega
    · split at h
      · injection h with h; injection h with h1 h2; injection h2 with h2 h3
        refine .inr ?_
        rw [← h2, List.length_drop]
        omega
      · split at h
        · injection h with h; injection h with h1 h2; injection h2 with h2 h3
          refine .inr ?_
          rw [← h2, List.length_drop]
          omega
        · injection h with h; injection h with h1 h2; injection h2 with h2 h3
          exact .inl ⟨by rw [← h1], h2.symm⟩
theorem step_one {R R' T : List UInt8} {k k' : Nat} (h : stepF R k = some (⟨1, T⟩, R', k')) : T.length + 2 ≤ R.length := by
  unfold stepF at h
  cases he : endOf R k with
  | none => rw [he] at h; cases h
  | some e =>
    have hb := (endOf_lt he).2
    rw [he] at h
    simp only at h
    split at h
    · cases h
    · split at h
      · injection h with h; injection h with h1 h2
        injection h1 with _ h1
        rw [← h1, List.length_take]
        omega
      · split at h <;> cases h
theorem last_len {R R' T : List UInt8} {k k' : Nat} {fs : List Fr} (h : Runs R k (fs ++ [⟨1, T⟩]) R' k') : T.length + 2 ≤ R.length := by
  induction fs generalizing R k with
  | nil =>
    cases h with
    | cons hs _ => exact step_one hs
  | cons f fs ih =>
    cases h with
    | cons hs h2 =>
      have := ih h2
      have := (stepF_lt hs).2.2.1
      omega
theorem all_two {R R' T : List UInt8} {k k' : Nat} {fs : List Fr} (h : Runs R k (fs ++ [⟨1, T⟩]) R' k') (hl : R.length ≤ T.length + 2) : ∀ f ∈ fs, f.kind = 2 := by
  induction fs generalizing R k with
  | nil => intro f hf; cases hf
  | cons g fs ih =>
    cases h with
    | cons hs h2 =>
      have h3 := last_len h2
      rcases step_kind hs with ⟨h4, rfl⟩ | h4
      · intro f hf
        rcases List.mem_cons.1 hf with rfl | hf
        · exact h4
        · exact ih h2 hl f hf
      · omega
theorem rdF_skips {fs : List Fr} (h : ∀ f ∈ fs, f.kind = 2) : RdF fs [] := by
  induction fs with
  | nil => exact .nil
  | cons f fs ih =>
    have h1 : RdF ([] ++ [f]) [] := RdF.nil.skip (h f (List.mem_cons_self ..))
    exact h1.append (ih fun g hg => h g (List.mem_cons_of_mem _ hg))
/-- A text that is sent gives its command. -/
theorem sent_rd {T : List UInt8} {j : Nat} {c : Cmd} (h : Sent T j) (hc : IsCmd T c true) : ∃ fs, Runs (T ++ [13, 10]) 0 fs [] 0 ∧ RdF fs [c] := by
  obtain ⟨fs, h1, _⟩ := h
  exact ⟨_, h1, (rdF_skips (all_two h1 (by simp))).take (f := ⟨1, T⟩) (cs := []) rfl hc⟩
/-- What can be sent is read again. -/
theorem str_rd (xs : List CX) (h : ∀ x ∈ xs, okX x) (hf : ∀ x ∈ xs, 0 ≤ x.c.flags) (hb : ∀ x ∈ xs, ∀ r ∈ x.c.set, r.1 ≤ 4294967295 ∧ r.2 ≤ 4294967295) : ∃ fs, Runs (strT xs) 0 fs [] 0 ∧ RdF fs (xs.map fun x => cmOf x.c) := by
  induction xs with
  | nil => exact ⟨[], .nil _ _, .nil⟩
  | cons x xs ih =>
    obtain ⟨fs, h1, h2⟩ := ih (fun y hy => h y (List.mem_cons_of_mem _ hy)) (fun y hy => hf y (List.mem_cons_of_mem _ hy)) (fun y hy => hb y (List.mem_cons_of_mem _ hy))
    obtain ⟨hv, j, hj⟩ := h x (List.mem_cons_self ..)
    obtain ⟨gs, h3, h4⟩ := sent_rd hj (text_cmd hv (hf x (List.mem_cons_self ..)) (hb x (List.mem_cons_self ..))).1
    exact ⟨gs ++ fs, h3.two h1, h4.append h2⟩
/-- The commands that were read are those that were sent. -/
theorem str_back (xs : List CX) (h : ∀ x ∈ xs, okX x) (hf : ∀ x ∈ xs, 0 ≤ x.c.flags) (hb : ∀ x ∈ xs, ∀ r ∈ x.c.set, r.1 ≤ 4294967295 ∧ r.2 ≤ 4294967295) : (xs.map fun x => cmOf x.c).map ciOf = xs.map fun x => x.c := by
  rw [List.map_map]
  exact List.map_congr_left fun x hx => (text_cmd (h x hx).1 (hf x hx) (hb x hx)).2
end Go.Proofs.YtpgfnlhfciacoaaGreatDoor
