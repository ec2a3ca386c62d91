/- The ascending list of a list's numbers. No walk. -/
import Derived.WalkKit
import Derived.Test.YthdbbappojkmoaaGreatHa
namespace Go.Proofs.YthdbbappojkmoaaGreat
open Go.RowKit

/-- Two ascending lists with the same members are one. -/
theorem asc_unique : ∀ {a b : List Nat}, a.Pairwise (· < ·) → b.Pairwise (· < ·) → (∀ n, n ∈ a ↔ n ∈ b) → a = b
  | [], [], _, _, _ => rfl
  | [], y :: b, _, _, h => by have := (h y).2 (by simp); cases this
  | x :: a, [], _, _, h => by have := (h x).1 (by simp); cases this
  | x :: a, y :: b, ha, hb, h => by
    have ha' := List.pairwise_cons.1 ha
    have hb' := List.pairwise_cons.1 hb
    have hxy : x = y := by
      rcases List.mem_cons.1 ((h x).1 (by simp)) with e | hx
      · exact e
      · rcases List.mem_cons.1 ((h y).2 (by simp)) with e | hy
        · exact e.symm
        · have := ha'.1 y hy
          have := hb'.1 x hx
          omega
    subst hxy
    rw [asc_unique ha'.2 hb'.2 (fun n => ?_)]
    have := h n
    simp only [List.mem_cons] at this
    constructor
    · intro hn
      rcases this.1 (.inr hn) with e | e
      · have := ha'.1 n hn; omega
      · exact e
    · intro hn
      rcases this.2 (.inr hn) with e | e
      · have := hb'.1 n hn; omega
      · exact e
/-- What New makes of a list. -/
def IsSet (O l : List Nat) : Prop := O.Pairwise (· < ·) ∧ ∀ n, n ∈ O ↔ n ∈ l ∧ 0 < n
theorem IsSet.det {O P l : List Nat} (h : IsSet O l) (k : IsSet P l) : O = P := asc_unique h.1 k.1 fun n => (h.2 n).trans (k.2 n).symm
theorem isSet_ex : ∀ (l : List Nat), ∃ O, IsSet O l ∧ O.length ≤ l.length
  | [] => ⟨[], ⟨List.Pairwise.nil, by simp⟩, Nat.le_refl _⟩
  | x :: l => by
    obtain ⟨O, ⟨h1, h2⟩, h3⟩ := isSet_ex l
    by_cases hx : x = 0 ∨ x ∈ O
    · refine ⟨O, ⟨h1, fun n => ?_⟩, by simp; omega⟩
      rw [h2 n, List.mem_cons]
      constructor
      · exact fun h => ⟨.inr h.1, h.2⟩
      · rintro ⟨rfl | h, h0⟩
        · rcases hx with rfl | hx
          · omega
          · exact (h2 _).1 hx
        · exact ⟨h, h0⟩
    · refine ⟨O.filter (fun y => decide (y < x)) ++ [x] ++ O.filter (fun y => decide (x < y)), ⟨?_, fun n => ?_⟩, ?_⟩
      · refine List.pairwise_append.2 ⟨List.pairwise_append.2 ⟨h1.filter _, List.pairwise_singleton _ _, fun y hy z hz => ?_⟩, h1.filter _, fun y hy z hz => ?_⟩
        · obtain rfl : z = x := by simpa using hz
          simpa using (List.mem_filter.1 hy).2
        · have hz2 : x < z := by simpa using (List.mem_filter.1 hz).2
          rcases List.mem_append.1 hy with hy | hy
          · have : y < x := by simpa using (List.mem_filter.1 hy).2
            omega
          · obtain rfl : y = x := by simpa using hy
            exact hz2
      · simp only [List.mem_append, List.mem_filter, List.mem_cons, List.not_mem_nil, or_false, decide_eq_true_eq]
        constructor
        · rintro ((⟨h, _⟩ | h) | ⟨h, _⟩)
          · exact ⟨.inr ((h2 n).1 h).1, ((h2 n).1 h).2⟩
          · exact ⟨.inl h, by omega⟩
          · exact ⟨.inr ((h2 n).1 h).1, ((h2 n).1 h).2⟩
        · rintro ⟨h | h, h0⟩
          · exact .inl (.inr h)
          · have hn : n ∈ O := (h2 n).2 ⟨h, h0⟩
            rcases Nat.lt_trichotomy n x with h4 | h4 | h4
            · exact .inl (.inl ⟨hn, h4⟩)
            · exact .inl (.inr h4)
            · exact .inr ⟨hn, h4⟩
      · have h4 : (O.filter fun y => decide (y < x)).length + (O.filter fun y => decide (x < y)).length ≤ O.length := by
          rw [← List.countP_eq_length_filter, ← List.countP_eq_length_filter]
          have e := List.length_eq_countP_add_countP (fun y => decide (y < x)) (l := O)
          have : O.countP (fun y => decide (x < y)) ≤ O.countP (fun y => decide ¬decide (y < x) = true) := List.countP_mono_left fun y _ hy => by
            simp at hy ⊢
            omega
          omega
        simp only [List.length_append, List.length_cons, List.length_nil]
        omega
end Go.Proofs.YthdbbappojkmoaaGreat

namespace Go.Proofs.YthdbbappojkmoaaGreat
open Go.RowKit

/-- What lies at a place. -/
def atL (l : List Nat) (p : Int) : Nat × Bool := if 1 ≤ p ∧ p ≤ l.length then (l[(p - 1).toNat]!, true) else (0, false)
/-- The greatest identifier; 0 if there is none. -/
def lastL (l : List Nat) : Nat := (atL l (l.length : Nat)).1
theorem last_lt {l : List Nat} {u : Nat} (ha : l.Pairwise (· < ·)) (h : lastL l < u) : ∀ y ∈ l, y < u := by
  intro y hy
  obtain ⟨i, hi, rfl⟩ := List.mem_iff_getElem.1 hy
  have e : lastL l = l[l.length - 1] := by
    unfold lastL atL
    rw [if_pos ⟨by omega, by omega⟩, show (((l.length : Nat) : Int) - 1).toNat = l.length - 1 by omega, getElem!_pos l _ (by omega)]
  rcases Nat.lt_or_ge i (l.length - 1) with h2 | h2
  · have := List.pairwise_iff_getElem.1 ha i (l.length - 1) hi (by omega) h2
    omega
  · obtain rfl : i = l.length - 1 := by omega
    omega
theorem asc_snoc {l : List Nat} {u : Nat} (ha : l.Pairwise (· < ·)) (h : lastL l < u) : (l ++ [u]).Pairwise (· < ·) := by
  refine List.pairwise_append.2 ⟨ha, List.pairwise_singleton _ _, fun y hy z hz => ?_⟩
  obtain rfl : z = u := by simpa using hz
  exact last_lt ha h y hy
/-- How many are less. -/
def cntL (l : List Nat) (u : Nat) : Nat := l.countP fun y => !decide (u ≤ y)
theorem cnt_le (l : List Nat) (u : Nat) : cntL l u ≤ l.length := List.countP_le_length
theorem cnt_low {l : List Nat} {u : Nat} (h : ∀ y ∈ l, y < u) : cntL l u = l.length := by
  unfold cntL
  rw [List.countP_eq_length]
  intro y hy
  have := h y hy
  simp
  omega
theorem cnt_high {l : List Nat} {u : Nat} (h : ∀ y ∈ l, u ≤ y) : cntL l u = 0 := by
  unfold cntL
  rw [List.countP_eq_zero]
  intro y hy
  have := h y hy
  simp
  omega
/-- An identifier's place: 0, or one more than how many are ahead of it. -/
def posL (l : List Nat) (u : Nat) : Nat := if u ∈ l then cntL l u + 1 else 0
theorem asc_split {l : List Nat} {u : Nat} (ha : l.Pairwise (· < ·)) (hu : u ∈ l) : ∃ a b, l = a ++ u :: b ∧ (∀ y ∈ a, y < u) ∧ (∀ y ∈ b, u < y) ∧ cntL l u = a.length := by
  obtain ⟨a, b, rfl⟩ := List.append_of_mem hu
  have h := List.pairwise_append.1 ha
  have h1 : ∀ y ∈ a, y < u := fun y hy => h.2.2 y hy u (by simp)
  have h2 : ∀ y ∈ b, u < y := fun y hy => (List.pairwise_cons.1 h.2.1).1 y hy
  refine ⟨a, b, rfl, h1, h2, ?_⟩
  have e1 := cnt_low h1
  have e2 : cntL (u :: b) u = 0 := cnt_high (fun y hy => by
    rcases List.mem_cons.1 hy with rfl | hy
    · exact Nat.le_refl _
    · exact Nat.le_of_lt (h2 y hy))
  unfold cntL at *
  rw [List.countP_append, e1, e2]
  rfl
theorem at_cnt {l : List Nat} {u : Nat} (ha : l.Pairwise (· < ·)) (hu : u ∈ l) : cntL l u < l.length ∧ l[cntL l u]! = u := by
  obtain ⟨a, b, hl, _, _, hc⟩ := asc_split ha hu
  rw [hc, hl]
  refine ⟨by simp, ?_⟩
  rw [getElem!_pos _ _ (by simp)]
  simp
theorem not_cnt {l : List Nat} {u : Nat} (hu : ¬ u ∈ l) (h : cntL l u < l.length) : ¬ l[cntL l u]! = u := by
  rw [getElem!_pos l (cntL l u) h]
  exact fun e => hu (e ▸ List.getElem_mem h)
/-- The list without an identifier. -/
def remL (l : List Nat) (u : Nat) : List Nat := l.filter fun y => !decide (y = u)
theorem rem_split {l a b : List Nat} {u : Nat} (hl : l = a ++ u :: b) (h1 : ∀ y ∈ a, y < u) (h2 : ∀ y ∈ b, u < y) : remL l u = a ++ b := by
  unfold remL
  rw [hl, List.filter_append, List.filter_cons_of_neg (by simp), List.filter_eq_self.2 (fun y hy => by have := h1 y hy; simp; omega), List.filter_eq_self.2 (fun y hy => by have := h2 y hy; simp; omega)]
theorem rem_not {l : List Nat} {u : Nat} (h : ¬ u ∈ l) : remL l u = l := by
  unfold remL
  refine List.filter_eq_self.2 fun y hy => ?_
  simp
  exact fun e => h (e ▸ hy)
/-- The identifiers in a range. -/
def betL (l : List Nat) (lo hi : Nat) : List Nat := l.filter fun y => decide (lo ≤ y) && decide (y ≤ hi)
theorem drop_cnt {l : List Nat} (lo : Nat) (ha : l.Pairwise (· < ·)) : l.drop (cntL l lo) = l.filter fun y => decide (lo ≤ y) := by
  induction l with
  | nil => rfl
  | cons x l ih =>
    have h := List.pairwise_cons.1 ha
    by_cases hx : lo ≤ x
    · have e : cntL (x :: l) lo = 0 := cnt_high (fun y hy => by
        rcases List.mem_cons.1 hy with rfl | hy
        · exact hx
        · have := h.1 y hy; omega)
      rw [e, List.drop_zero, List.filter_eq_self.2 (fun y hy => by
        rcases List.mem_cons.1 hy with rfl | hy
        · simpa using hx
        · have := h.1 y hy; simp; omega)]
    · have e : cntL (x :: l) lo = cntL l lo + 1 := by
        unfold cntL
        rw [List.countP_cons_of_pos (by simpa using hx)]
      rw [e, List.drop_succ_cons, ih h.2, List.filter_cons_of_neg (by simpa using hx)]
theorem bet_all {l ys : List Nat} {lo hi : Nat} (h : l.filter (fun y => decide (lo ≤ y)) = ys) (hh : ∀ y ∈ ys, y ≤ hi) : betL l lo hi = ys := by
  unfold betL
  rw [← h] at hh ⊢
  refine List.filter_congr fun y hy => ?_
  by_cases hl : lo ≤ y
  · have := hh y (List.mem_filter.2 ⟨hy, by simpa using hl⟩)
    simp [hl, this]
  · simp [hl]
theorem bet_stop {l pre t : List Nat} {x lo hi : Nat} (ha : l.Pairwise (· < ·)) (h : l.filter (fun y => decide (lo ≤ y)) = (pre ++ [x]) ++ t) (hh : ∀ y ∈ pre, y ≤ hi) (hx : hi < x) : betL l lo hi = pre := by
  have e : betL l lo hi = (l.filter (fun y => decide (lo ≤ y))).filter fun y => decide (y ≤ hi) := by
    unfold betL
    rw [List.filter_filter]
    refine List.filter_congr fun y _ => ?_
    rw [Bool.and_comm]
  have ha2 := ha.filter (fun y => decide (lo ≤ y))
  rw [e]
  rw [h] at ha2 ⊢
  rw [List.append_assoc] at ha2 ⊢
  have h3 := (List.pairwise_append.1 ha2).2.1
  have h4 := (List.pairwise_cons.1 h3).1
  rw [List.filter_append, List.filter_eq_self.2 (fun y hy => by simpa using hh y hy), List.filter_eq_nil_iff.2 (fun y hy => by
    rcases List.mem_append.1 hy with hy | hy
    · obtain rfl : y = x := by simpa using hy
      simp; omega
    · have := h4 y hy
      simp; omega), List.append_nil]
theorem cnt_at {l : List Nat} (ha : l.Pairwise (· < ·)) {k : Nat} (hk : k < l.length) : cntL l l[k] = k := by
  have h1 := at_cnt ha (List.getElem_mem hk)
  rw [getElem!_pos l _ h1.1] at h1
  rcases Nat.lt_trichotomy (cntL l l[k]) k with h | h | h
  · have := List.pairwise_iff_getElem.1 ha _ k h1.1 hk h
    omega
  · exact h
  · have := List.pairwise_iff_getElem.1 ha k _ hk h1.1 h
    omega
theorem rem_take {l : List Nat} {u k : Nat} (hk : k < l.length) : remL (l.take (k + 1)) u = if l[k] = u then remL (l.take k) u else remL (l.take k) u ++ [l[k]] := by
  unfold remL
  rw [List.take_succ_eq_append_getElem hk, List.filter_append]
  by_cases h : l[k] = u
  · rw [if_pos h, List.filter_cons_of_neg (by simpa using h), List.filter_nil, List.append_nil]
  · rw [if_neg h, List.filter_cons_of_pos (by simpa using h), List.filter_nil]
theorem bet_take {l : List Nat} {lo hi k : Nat} (hk : k < l.length) : betL (l.take (k + 1)) lo hi = if lo ≤ l[k] ∧ l[k] ≤ hi then betL (l.take k) lo hi ++ [l[k]] else betL (l.take k) lo hi := by
  unfold betL
  rw [List.take_succ_eq_append_getElem hk, List.filter_append]
  by_cases h : lo ≤ l[k] ∧ l[k] ≤ hi
  · rw [if_pos h, List.filter_cons_of_pos (by simpa using h), List.filter_nil]
  · rw [if_neg h, List.filter_cons_of_neg (by simpa using h), List.filter_nil, List.append_nil]
theorem last_get {l : List Nat} (h : 0 < l.length) : lastL l = l[l.length - 1] := by
  unfold lastL atL
  rw [if_pos ⟨by omega, by omega⟩, show (((l.length : Nat) : Int) - 1).toNat = l.length - 1 by omega, getElem!_pos l _ (by omega)]
end Go.Proofs.YthdbbappojkmoaaGreat

namespace Go.Proofs.YthdbbappojkmoaaGreat
open Go.RowKit

theorem slAt_x {w : World} {b x : Nat} (h : w.cell? ⟨b, 0, none⟩ = some (.int .u32 (x : Int))) (hb : b < w.heap.size) : SlAt encU 1 w (some ⟨b, 0, none⟩) [x] := by
  refine .inr ⟨b, 0, rfl, hb, fun j y hj i v hi => ?_⟩
  obtain rfl : j = 0 := by
    have := (List.getElem?_eq_some_iff.1 hj).1
    simpa using this
  obtain rfl : x = y := by simpa using hj
  obtain rfl : i = 0 := by
    have := (List.getElem?_eq_some_iff.1 hi).1
    simpa [encU] using this
  obtain rfl : v = .int .u32 (x : Int) := by simpa [encU] using hi.symm
  simpa using h
end Go.Proofs.YthdbbappojkmoaaGreat
