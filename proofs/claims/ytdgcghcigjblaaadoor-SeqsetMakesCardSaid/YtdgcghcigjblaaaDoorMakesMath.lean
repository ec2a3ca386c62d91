/- Numbers of a canonical set; the remainders and their greatest. -/
import Derived.Test.YtdgcghcigjblaaaDoorSeqJMath
import Derived.Test.YtdgcghcigjblaaaDoorFew
namespace Go.Proofs.YtdgcghcigjblaaaDoor
open Go.RowKit

theorem bnd_self {top : Nat} {r : R} (h : okR r) : bndN top r = r := by
  obtain ⟨lo, hi⟩ := r
  obtain ⟨h1, h2, _⟩ := h
  dsimp only at h1 h2
  have e1 : realN top lo = lo := by unfold realN; rw [if_neg (by omega)]
  have e2 : realN top hi = hi := by unfold realN; rw [if_neg (by omega)]
  unfold bndN
  show (min (realN top lo) (realN top hi), max (realN top lo) (realN top hi)) = (lo, hi)
  rw [e1, e2, Nat.min_eq_left h2, Nat.max_eq_right h2]

theorem nums_canon {top : Nat} {J : List R} {O : List Nat} (hc : canon J) (hO : O.Pairwise (· < ·)) (hm : ∀ n, n ∈ O ↔ memL J n) (hle : ∀ n ∈ O, n ≤ top) : numsL top J = O := by
  refine ascending_unique (numsL_sorted top J) hO fun n => ?_
  rw [mem_numsL]
  by_cases hJ : J = []
  · subst hJ
    have e : hasL top n [] = false := by simp [hasL, vldL]
    constructor
    · rintro ⟨_, h⟩
      rw [e] at h
      cases h
    · intro h
      exact absurd ((hm n).1 h) (memL_nil n)
  · have hin : ∀ r ∈ J, r.1 ≤ top ∧ r.2 ≤ top := fun r hr => by
      have ok := hc.1 r hr
      have h2 := hle r.2 ((hm r.2).2 ⟨r, hr, ok.2.1, Nat.le_refl _⟩)
      exact ⟨Nat.le_trans ok.2.1 h2, h2⟩
    have hpos : 0 < top := by
      obtain ⟨r, hr⟩ := List.exists_mem_of_ne_nil J hJ
      have := (hc.1 r hr).1
      have := (hin r hr).1
      omega
    have hv : vldL top J = true := by
      unfold vldL
      simp only [Bool.and_eq_true, decide_eq_true_eq, List.all_eq_true, Bool.not_eq_true', List.isEmpty_eq_false_iff]
      refine ⟨⟨hpos, hJ⟩, fun r hr => ?_⟩
      have := hin r hr
      omega
    have hmap : J.map (bndN top) = J := by
      conv => rhs; rw [← List.map_id J]
      exact List.map_congr_left fun r hr => bnd_self (hc.1 r hr)
    rw [hasL_iff hv, hmap, ← hm n]
    constructor
    · exact fun h => h.2
    · intro h
      have h1 := hle n h
      obtain ⟨r, hr, h2, h3⟩ := (hm n).1 h
      have := (hc.1 r hr).1
      exact ⟨⟨by omega, h1⟩, h⟩

def maxF (l : List Nat) : Nat := l.foldl (fun a n => max a (n % 1000)) 0
theorem maxF_take (l : List Nat) (k : Nat) (h : k < l.length) : maxF (l.take (k + 1)) = max (maxF (l.take k)) (l[k] % 1000) := by
  unfold maxF
  rw [List.take_succ_eq_append_getElem h, List.foldl_append]
  rfl
theorem foldMax_le (l : List Nat) (a : Nat) : a ≤ l.foldl (fun a n => max a (n % 1000)) a ∧ ∀ n ∈ l, n % 1000 ≤ l.foldl (fun a n => max a (n % 1000)) a := by
  induction l generalizing a with
  | nil => exact ⟨Nat.le_refl _, fun n h => by cases h⟩
  | cons x l ih =>
    have := ih (max a (x % 1000))
    refine ⟨Nat.le_trans (Nat.le_max_left _ _) this.1, fun n hn => ?_⟩
    rcases List.mem_cons.1 hn with rfl | hn
    · exact Nat.le_trans (Nat.le_max_right _ _) this.1
    · exact this.2 n hn
theorem le_maxF {l : List Nat} {n : Nat} (h : n ∈ l.map (· % 1000)) : n ≤ maxF l := by
  obtain ⟨m, hm, rfl⟩ := List.mem_map.1 h
  exact (foldMax_le l 0).2 m hm
theorem maxF_lt (l : List Nat) : maxF l < 1000 := by
  have : ∀ (l : List Nat) (a : Nat), a < 1000 → l.foldl (fun a n => max a (n % 1000)) a < 1000 := by
    intro l
    induction l with
    | nil => exact fun a h => h
    | cons x l ih => exact fun a h => ih _ (by have := Nat.mod_lt x (show 0 < 1000 by decide); show max a (x % 1000) < 1000; omega)
  exact this l 0 (by decide)
end Go.Proofs.YtdgcghcigjblaaaDoor
