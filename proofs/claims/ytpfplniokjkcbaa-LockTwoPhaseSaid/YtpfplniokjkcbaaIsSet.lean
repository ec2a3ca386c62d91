/- The ascending list of a list's numbers. No walk. -/
import Derived.WalkKit
namespace Go.Proofs.Ytpfplniokjkcbaa
open Go.RowKit

/-- Two ascending lists with the same members are one. -/
theorem asc_unique : ∀ {a b : List Nat}, a.Pairwise (· < ·) → b.Pairwise (· < ·) → (∀ n, n ∈ a ↔ n ∈ b) → a = b
  | [], [], _, _, _ => rfl
  | [], y :: b, _, _, h => by have := (h y).2 (by simp); cases this
  | x :: a, [], _, _, h => by have := (h x).1 (by simp); cases this
  | x :: a, y :: b, ha, hb, h => by
    have ha' := List.pairwise_cons.1 ha
    have hb' := List.pairwise_cons.1 hb
    have hxy : x = y := by
      rcases List.mem_cons.1 ((h x).1 (by simp)) with e | hx
      · exact e
      · rcases List.mem_cons.1 ((h y).2 (by simp)) with e | hy
        · exact e.symm
        · have := ha'.1 y hy
          have := hb'.1 x hx
          omega
    subst hxy
    rw [asc_unique ha'.2 hb'.2 (fun n => ?_)]
    have := h n
    simp only [List.mem_cons] at this
    constructor
    · intro hn
      rcases this.1 (.inr hn) with e | e
      · have := ha'.1 n hn; omega
      · exact e
    · intro hn
      rcases this.2 (.inr hn) with e | e
      · have := hb'.1 n hn; omega
      · exact e
/-- What New makes of a list. -/
def IsSet (O l : List Nat) : Prop := O.Pairwise (· < ·) ∧ ∀ n, n ∈ O ↔ n ∈ l ∧ 0 < n
theorem IsSet.det {O P l : List Nat} (h : IsSet O l) (k : IsSet P l) : O = P := asc_unique h.1 k.1 fun n => (h.2 n).trans (k.2 n).symm
theorem isSet_ex : ∀ (l : List Nat), ∃ O, IsSet O l ∧ O.length ≤ l.length
  | [] => ⟨[], ⟨List.Pairwise.nil, by simp⟩, Nat.le_refl _⟩
  | x :: l => by
    obtain ⟨O, ⟨h1, h2⟩, h3⟩ := isSet_ex l
    by_cases hx : x = 0 ∨ x ∈ O
    · refine ⟨O, ⟨h1, fun n => ?_⟩, by simp; omega⟩
      rw [h2 n, List.mem_cons]
      constructor
      · exact fun h => ⟨.inr h.1, h.2⟩
      · rintro ⟨rfl | h, h0⟩
        · rcases hx with rfl | hx
          · omega
          · exact (h2 _).1 hx
        · exact ⟨h, h0⟩
    · refine ⟨O.filter (fun y => decide (y < x)) ++ [x] ++ O.filter (fun y => decide (x < y)), ⟨?_, fun n => ?_⟩, ?_⟩
      · refine List.pairwise_append.2 ⟨List.pairwise_append.2 ⟨h1.filter _, List.pairwise_singleton _ _, fun y hy z hz => ?_⟩, h1.filter _, fun y hy z hz => ?_⟩
        · obtain rfl : z = x := by simpa using hz
          simpa using (List.mem_filter.1 hy).2
        · have hz2 : x < z := by simpa using (List.mem_filter.1 hz).2
          rcases List.mem_append.1 hy with hy | hy
          · have : y < x := by simpa using (List.mem_filter.1 hy).2
            omega
          · obtain rfl : y = x := by simpa using hy
            exact hz2
      · simp only [List.mem_append, List.mem_filter, List.mem_cons, List.not_mem_nil, or_false, decide_eq_true_eq]
        constructor
        · rintro ((⟨h, _⟩ | h) | ⟨h, _⟩)
          · exact ⟨.inr ((h2 n).1 h).1, ((h2 n).1 h).2⟩
          · exact ⟨.inl h, by omega⟩
          · exact ⟨.inr ((h2 n).1 h).1, ((h2 n).1 h).2⟩
        · rintro ⟨h | h, h0⟩
          · exact .inl (.inr h)
          · have hn : n ∈ O := (h2 n).2 ⟨h, h0⟩
            rcases Nat.lt_trichotomy n x with h4 | h4 | h4
            · exact .inl (.inl ⟨hn, h4⟩)
            · exact .inl (.inr h4)
            · exact .inr ⟨hn, h4⟩
      · have h4 : (O.filter fun y => decide (y < x)).length + (O.filter fun y => decide (x < y)).length ≤ O.length := by
          rw [← List.countP_eq_length_filter, ← List.countP_eq_length_filter]
          have e := List.length_eq_countP_add_countP (fun y => decide (y < x)) (l := O)
          have : O.countP (fun y => decide (x < y)) ≤ O.countP (fun y => decide ¬decide (y < x) = true) := List.countP_mono_left fun y _ hy => by
            simp at hy ⊢
            omega
          omega
        simp only [List.length_append, List.length_cons, List.length_nil]
        omega
end Go.Proofs.Ytpfplniokjkcbaa
