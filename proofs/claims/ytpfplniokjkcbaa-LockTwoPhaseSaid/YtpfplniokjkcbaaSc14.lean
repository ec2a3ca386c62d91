/- slices.Sort and slices.Compact of a row of ints of one's own (the library's contracts, laid by ShelfS: lays189, laysNm220). -/
import Derived.Test.YtpfplniokjkcbaaLk
import Derived.Test.YtpfplniokjkcbaaShelfS
import Derived.Lib.OwnBridge
import Derived.Sort.OwnSortedInts
namespace Go.Proofs.Ytpfplniokjkcbaa
open Go.RowKit Go.Shelf

theorem flatI_map (l : List Int) : flatL encI l = l.map (Value.int .i64) := by
  induction l with
  | nil => rfl
  | cons x l ih =>
    rw [List.map_cons, ← ih]
    rfl
theorem sortI_own (B : Nat) (v : Value) (l : List Int) (hl : l.length ≤ 1000000000) (w : World) (hB : B ≤ w.heap.size) (hown : w.ownsRow B 3 1 v l.length (flatL encI l)) :
    Calls Try.prog 27 #[v] w fun e w' => e = .returned (.tuple #[]) ∧ w'.ownsRow B 3 1 v l.length (flatL encI (l.mergeSort fun x y => decide (x ≤ y))) ∧ Below B w w' := by
  obtain ⟨A, c, rfl⟩ := own_any hown
  by_cases h0 : l = []
  · subst h0
    refine (Any.slices_Sort_int_none Try.lays189 A c w).mono ?_
    rintro e w' ⟨rfl, rfl⟩
    exact ⟨rfl, by rw [List.mergeSort_nil]; exact hown, Below.refl _ _⟩
  · have hn : l.length ≠ 0 := fun e => h0 (List.eq_nil_of_length_eq_zero e)
    have ho := hown
    rw [flatI_map] at ho
    obtain ⟨g, cap, e, hg, hlt, h1, h2, h3, hH⟩ := Lib.holds_of_ownsRow ho fun e => by
      injection e with _ e
      omega
    injection e with e1 e2 e3
    subst e1; subst e3
    refine (Any.slices_Sort_int Try.lays189 g 0 c l w hH hlt (by omega)).mono ?_
    rintro e w' ⟨rfl, n, os, rfl⟩
    rcases ho.2 with ⟨e, _⟩ | ⟨g', cap', cur, hv, hb, hh, k1, k2, k3, _⟩
    · cases e
    cases hv
    refine ⟨rfl, ?_, ?_⟩
    · rw [flatI_map]
      exact ownsRow_sortedI (by rw [List.length_mergeSort]) hb hh k1 k2 k3
    · exact (Below.refl B w).grown (grownBy_sortedI _) hB fun j hj => by cases hj; exact hb
theorem compI_own (B : Nat) (v : Value) (l : List Int) (hl : l.length ≤ 1000000000) (w : World) (hB : B ≤ w.heap.size) (hown : w.ownsRow B 3 1 v l.length (flatL encI l)) :
    Calls Try.prog 28 #[v] w fun e w' => ∃ v', e = .returned v' ∧ w'.ownsRow B 3 1 v' (Lib.compact l).length (flatL encI (Lib.compact l)) ∧ Below B w w' := by
  obtain ⟨A, c, rfl⟩ := own_any hown
  by_cases h0 : l = []
  · subst h0
    refine (Any.slices_Compact_int_empty Try.laysNm220 A c w).mono ?_
    rintro e w' ⟨rfl, rfl⟩
    exact ⟨_, rfl, hown, Below.refl _ _⟩
  · have hn : l.length ≠ 0 := fun e => h0 (List.eq_nil_of_length_eq_zero e)
    have ho := hown
    rw [flatI_map] at ho
    obtain ⟨g, cap, e, hg, hlt, h1, h2, h3, hH⟩ := Lib.holds_of_ownsRow ho fun e => by
      injection e with _ e
      omega
    injection e with e1 e2 e3
    subst e1; subst e3
    refine (Any.slices_Compact_int Try.laysNm220 g 0 c l w hH (by omega) h1).mono ?_
    rintro e w' ⟨rfl, q, rfl⟩
    have hle := Lib.compact_length_le l
    have hr := Lib.ownsRow_putRow (q := q) (k := (Lib.compact l).length) (ys := Lib.compact l ++ List.replicate (l.length - (Lib.compact l).length) 0) ho (by simp; omega) hle
    rw [List.take_left] at hr
    refine ⟨_, rfl, ?_, Lib.below_putRow (Below.refl B w) hg⟩
    rw [flatI_map]
    exact hr
/-- What is compacted of a sorted list is strictly ascending. -/
theorem compact_asc {l : List Int} (h : l.Pairwise (· ≤ ·)) : (Lib.compact l).Pairwise (· < ·) ∧ ∀ y ∈ Lib.compact l, y ∈ l := by
  have at_ : ∀ {j : Nat} (hj : j < l.length), l.toArray[j]! = l[j] := fun hj => by simp [hj]
  unfold Lib.compact Lib.compactUpTo
  constructor
  · rw [List.pairwise_map]
    refine (List.pairwise_lt_range.filter (Lib.keeps l.toArray)).imp_of_mem ?_
    intro i j hi hj hij
    obtain ⟨hi1, _⟩ := List.mem_filter.1 hi
    obtain ⟨hj1, hj2⟩ := List.mem_filter.1 hj
    have hi1 := List.mem_range.1 hi1
    have hj1 := List.mem_range.1 hj1
    have hk : j = 0 ∨ l.toArray[j]! ≠ l.toArray[j - 1]! := of_decide_eq_true hj2
    rw [at_ hi1, at_ hj1]
    rcases hk with hk | hk
    · omega
    · rw [at_ hj1, at_ (show j - 1 < l.length by omega)] at hk
      have h1 : l[i] ≤ l[j - 1] := by
        rcases Nat.lt_or_ge i (j - 1) with e | e
        · exact List.pairwise_iff_getElem.1 h i (j - 1) hi1 (by omega) e
        · have : i = j - 1 := by omega
          subst this
          exact Int.le_refl _
      have h2 : l[j - 1] ≤ l[j] := List.pairwise_iff_getElem.1 h (j - 1) j (by omega) hj1 (by omega)
      omega
  · intro y hy
    obtain ⟨j, hj, rfl⟩ := List.mem_map.1 hy
    have hj := List.mem_range.1 (List.mem_filter.1 hj).1
    show l.toArray[j]! ∈ l
    rw [at_ hj]
    exact List.getElem_mem hj
/-- The wishes of an owner: sorted, each once. -/
def wishL (l : List Int) : List Int := Lib.compact (l.mergeSort fun x y => decide (x ≤ y))
theorem wishL_asc (l : List Int) : (wishL l).Pairwise (· < ·) ∧ ∀ y ∈ wishL l, y ∈ l := by
  have hs : (l.mergeSort fun x y => decide (x ≤ y)).Pairwise (· ≤ ·) := (List.pairwise_mergeSort (fun a b c h1 h2 => by simp at h1 h2 ⊢; omega) (fun a b => by simp; omega) l).imp fun h => by simpa using h
  obtain ⟨h1, h2⟩ := compact_asc hs
  exact ⟨h1, fun y hy => List.mem_mergeSort.1 (h2 y hy)⟩
end Go.Proofs.Ytpfplniokjkcbaa
