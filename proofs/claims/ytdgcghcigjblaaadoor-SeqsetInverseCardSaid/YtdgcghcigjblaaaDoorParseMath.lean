/- Parse inverts Print: plain mathematics. -/
import Derived.Test.YtdgcghcigjblaaaDoorParse
import Derived.Test.YtdgcghcigjblaaaDoorPrintL
import Derived.Test.YtdgcghcigjblaaaDoorNumMath
namespace Go.Proofs.YtdgcghcigjblaaaDoor
open Go.RowKit

theorem form_chars {n : Nat} {c : UInt8} (h : c ∈ formN n) : c = 42 ∨ (48 ≤ c.toNat ∧ c.toNat ≤ 57) := by
  unfold formN at h
  split at h
  · exact .inl (by simpa using h)
  · obtain ⟨h1, _, _⟩ := dec_facts n
    have := List.all_eq_true.1 h1 c h
    simp only [isDig, decide_eq_true_eq] at this
    exact .inr this
theorem form_no {n : Nat} {c : UInt8} (hc : c ≠ 42) (hd : ¬ (48 ≤ c.toNat ∧ c.toNat ≤ 57)) : c ∉ formN n := fun h => (form_chars h).elim hc hd
theorem no_44 (n : Nat) : (44 : UInt8) ∉ formN n := form_no (by decide) (by decide)
theorem no_58 (n : Nat) : (58 : UInt8) ∉ formN n := form_no (by decide) (by decide)
theorem numP_form {n : Nat} (h : n ≤ 4294967295) : numP (formN n) = (n, true) := by
  unfold numP formN
  by_cases h0 : n = 0
  · simp [h0]
  · rw [if_neg h0]
    obtain ⟨h1, _, _⟩ := dec_facts n
    have hne : Lib.decDigits n ≠ [42] := by
      intro e
      rw [e] at h1
      revert h1
      decide
    rw [if_neg hne, numOf_dec h]
    simp
    omega
theorem index_not {c : UInt8} : ∀ {l : List UInt8}, c ∉ l → Lib.indexByte l c = -1
  | [], _ => rfl
  | b :: l, h => by
    have h1 : (b == c) = false := by
      have : b ≠ c := fun e => h (by simp [e])
      simpa using this
    have h2 : c ∉ l := fun e => h (by simp [e])
    rw [Lib.indexByte, h1, index_not h2]
    simp
theorem index_is {c : UInt8} : ∀ {a b : List UInt8}, c ∉ a → Lib.indexByte (a ++ c :: b) c = (a.length : Int)
  | [], b, _ => by simp [Lib.indexByte]
  | x :: a, b, h => by
    have h1 : (x == c) = false := by
      have : x ≠ c := fun e => h (by simp [e])
      simpa using this
    have h2 : c ∉ a := fun e => h (by simp [e])
    have ih := index_is (b := b) h2
    rw [List.cons_append, Lib.indexByte, h1, ih]
    have h3 : ((a.length : Int) == -1) = false := by
      simp
    rw [h3]
    simp
theorem rngP_form {r : R} (h1 : r.1 ≤ 4294967295) (h2 : r.2 ≤ 4294967295) : rngP (formR r) = (r, true) := by
  obtain ⟨x, y⟩ := r
  unfold formR
  dsimp only at h1 h2 ⊢
  by_cases he : x = y
  · subst he
    rw [if_pos rfl]
    unfold rngP
    rw [index_not (no_58 x), if_pos (by decide), numP_form h1]
  · rw [if_neg he]
    unfold rngP
    rw [index_is (no_58 x), if_neg (by omega)]
    simp only [Int.toNat_natCast]
    have e1 : (formN x ++ 58 :: formN y).take (formN x).length = formN x := by simp
    have e2 : (formN x ++ 58 :: formN y).drop ((formN x).length + 1) = formN y := by
      rw [← List.drop_drop]; simp
    rw [e1, e2, numP_form h1, numP_form h2]
    rfl
theorem formR_no (r : R) : (44 : UInt8) ∉ formR r := by
  unfold formR
  split
  · exact no_44 _
  · intro h
    rcases List.mem_append.1 h with h | h
    · exact no_44 _ h
    · rcases List.mem_cons.1 h with h | h
      · revert h; decide
      · exact no_44 _ h
theorem split_print : ∀ (l : List R) (r : R), splitL 44 (formR r ++ prTail l) = formR r :: l.map formR
  | [], r => by
    have : formR r ++ prTail [] = formR r := by simp [prTail]
    rw [this, splitL_none (formR_no r)]
    rfl
  | q :: l, r => by
    have : formR r ++ prTail (q :: l) = formR r ++ 44 :: (formR q ++ prTail l) := by simp [prTail]
    rw [this, splitL_at (formR_no r), split_print l q]
    rfl
theorem parse_print {l : List R} (hne : l ≠ []) (hb : ∀ r ∈ l, r.1 ≤ 4294967295 ∧ r.2 ≤ 4294967295) : parseP (printL l) = (l, true) := by
  obtain ⟨r, l, rfl⟩ := List.exists_cons_of_ne_nil hne
  have hs : splitL 44 (printL (r :: l)) = (r :: l).map formR := split_print l r
  unfold parseP
  rw [hs, if_pos, List.map_map]
  · congr 1
    conv => rhs; rw [← List.map_id (r :: l)]
    apply List.map_congr_left
    intro q hq
    show (rngP (formR q)).1 = q
    rw [rngP_form (hb q hq).1 (hb q hq).2]
  · rw [List.all_map, List.all_eq_true]
    intro q hq
    show (rngP (formR q)).2 = true
    rw [rngP_form (hb q hq).1 (hb q hq).2]
end Go.Proofs.YtdgcghcigjblaaaDoor
