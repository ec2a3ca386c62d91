/- Ascending identifiers in plain words: places, the last one, what is left, a range. No walk. -/
import Derived.Test.YtefodmbaknedkaaVa
import Derived.Test.YtefodmbaknedkaaVb
import Derived.Test.YtefodmbaknedkaaVc
namespace Go.Proofs.Ytefodmbaknedkaa
open Go.RowKit

/-- What lies at a place. -/
def atL (l : List Nat) (p : Int) : Nat × Bool := if 1 ≤ p ∧ p ≤ l.length then (l[(p - 1).toNat]!, true) else (0, false)
/-- The greatest identifier; 0 if there is none. -/
def lastL (l : List Nat) : Nat := (atL l (l.length : Nat)).1
theorem last_lt {l : List Nat} {u : Nat} (ha : l.Pairwise (· < ·)) (h : lastL l < u) : ∀ y ∈ l, y < u := by
  intro y hy
  obtain ⟨i, hi, rfl⟩ := List.mem_iff_getElem.1 hy
  have e : lastL l = l[l.length - 1] := by
    unfold lastL atL
    rw [if_pos ⟨by omega, by omega⟩, show (((l.length : Nat) : Int) - 1).toNat = l.length - 1 by omega, getElem!_pos l _ (by omega)]
  rcases Nat.lt_or_ge i (l.length - 1) with h2 | h2
  · have := List.pairwise_iff_getElem.1 ha i (l.length - 1) hi (by omega) h2
    omega
  · obtain rfl : i = l.length - 1 := by omega
    omega
theorem asc_snoc {l : List Nat} {u : Nat} (ha : l.Pairwise (· < ·)) (h : lastL l < u) : (l ++ [u]).Pairwise (· < ·) := by
  refine List.pairwise_append.2 ⟨ha, List.pairwise_singleton _ _, fun y hy z hz => ?_⟩
  obtain rfl : z = u := by simpa using hz
  exact last_lt ha h y hy
/-- How many are less. -/
def cntL (l : List Nat) (u : Nat) : Nat := l.countP fun y => !decide (u ≤ y)
theorem cnt_le (l : List Nat) (u : Nat) : cntL l u ≤ l.length := List.countP_le_length
theorem cnt_low {l : List Nat} {u : Nat} (h : ∀ y ∈ l, y < u) : cntL l u = l.length := by
  unfold cntL
  rw [List.countP_eq_length]
  intro y hy
  have := h y hy
  simp
  omega
theorem cnt_high {l : List Nat} {u : Nat} (h : ∀ y ∈ l, u ≤ y) : cntL l u = 0 := by
  unfold cntL
  rw [List.countP_eq_zero]
  intro y hy
  have := h y hy
  simp
  omega
/-- An identifier's place: 0, or one more than how many are ahead of it. -/
def posL (l : List Nat) (u : Nat) : Nat := if u ∈ l then cntL l u + 1 else 0
theorem asc_split {l : List Nat} {u : Nat} (ha : l.Pairwise (· < ·)) (hu : u ∈ l) : ∃ a b, l = a ++ u :: b ∧ (∀ y ∈ a, y < u) ∧ (∀ y ∈ b, u < y) ∧ cntL l u = a.length := by
  obtain ⟨a, b, rfl⟩ := List.append_of_mem hu
  have h := List.pairwise_append.1 ha
  have h1 : ∀ y ∈ a, y < u := fun y hy => h.2.2 y hy u (by simp)
  have h2 : ∀ y ∈ b, u < y := fun y hy => (List.pairwise_cons.1 h.2.1).1 y hy
  refine ⟨a, b, rfl, h1, h2, ?_⟩
  have e1 := cnt_low h1
  have e2 : cntL (u :: b) u = 0 := cnt_high (fun y hy => by
    rcases List.mem_cons.1 hy with rfl | hy
    · exact Nat.le_refl _
    · exact Nat.le_of_lt (h2 y hy))
  unfold cntL at *
  rw [List.countP_append, e1, e2]
  rfl
theorem at_cnt {l : List Nat} {u : Nat} (ha : l.Pairwise (· < ·)) (hu : u ∈ l) : cntL l u < l.length ∧ l[cntL l u]! = u := by
  obtain ⟨a, b, hl, _, _, hc⟩ := asc_split ha hu
  rw [hc, hl]
  refine ⟨by simp, ?_⟩
  rw [getElem!_pos _ _ (by simp)]
  simp
theorem not_cnt {l : List Nat} {u : Nat} (hu : ¬ u ∈ l) (h : cntL l u < l.length) : ¬ l[cntL l u]! = u := by
  rw [getElem!_pos l (cntL l u) h]
  exact fun e => hu (e ▸ List.getElem_mem h)
/-- The list without an identifier. -/
def remL (l : List Nat) (u : Nat) : List Nat := l.filter fun y => !decide (y = u)
theorem rem_split {l a b : List Nat} {u : Nat} (hl : l = a ++ u :: b) (h1 : ∀ y ∈ a, y < u) (h2 : ∀ y ∈ b, u < y) : remL l u = a ++ b := by
  unfold remL
  rw [hl, List.filter_append, List.filter_cons_of_neg (by simp), List.filter_eq_self.2 (fun y hy => by have := h1 y hy; simp; omega), List.filter_eq_self.2 (fun y hy => by have := h2 y hy; simp; omega)]
theorem rem_not {l : List Nat} {u : Nat} (h : ¬ u ∈ l) : remL l u = l := by
  unfold remL
  refine List.filter_eq_self.2 fun y hy => ?_
  simp
  exact fun e => h (e ▸ hy)
/-- The identifiers in a range. -/
def betL (l : List Nat) (lo hi : Nat) : List Nat := l.filter fun y => decide (lo ≤ y) && decide (y ≤ hi)
theorem drop_cnt {l : List Nat} (lo : Nat) (ha : l.Pairwise (· < ·)) : l.drop (cntL l lo) = l.filter fun y => decide (lo ≤ y) := by
  induction l with
  | nil => rfl
  | cons x l ih =>
    have h := List.pairwise_cons.1 ha
    by_cases hx : lo ≤ x
    · have e : cntL (x :: l) lo = 0 := cnt_high (fun y hy => by
        rcases List.mem_cons.1 hy with rfl | hy
        · exact hx
        · have := h.1 y hy; omega)
      rw [e, List.drop_zero, List.filter_eq_self.2 (fun y hy => by
        rcases List.mem_cons.1 hy with rfl | hy
        · simpa using hx
        · have := h.1 y hy; simp; omega)]
    · have e : cntL (x :: l) lo = cntL l lo + 1 := by
        unfold cntL
        rw [List.countP_cons_of_pos (by simpa using hx)]
      rw [e, List.drop_succ_cons, ih h.2, List.filter_cons_of_neg (by simpa using hx)]
theorem bet_all {l ys : List Nat} {lo hi : Nat} (h : l.filter (fun y => decide (lo ≤ y)) = ys) (hh : ∀ y ∈ ys, y ≤ hi) : betL l lo hi = ys := by
  unfold betL
  rw [← h] at hh ⊢
  refine List.filter_congr fun y hy => ?_
  by_cases hl : lo ≤ y
  · have := hh y (List.mem_filter.2 ⟨hy, by simpa using hl⟩)
    simp [hl, this]
  · simp [hl]
theorem bet_stop {l pre t : List Nat} {x lo hi : Nat} (ha : l.Pairwise (· < ·)) (h : l.filter (fun y => decide (lo ≤ y)) = (pre ++ [x]) ++ t) (hh : ∀ y ∈ pre, y ≤ hi) (hx : hi < x) : betL l lo hi = pre := by
  have e : betL l lo hi = (l.filter (fun y => decide (lo ≤ y))).filter fun y => decide (y ≤ hi) := by
    unfold betL
    rw [List.filter_filter]
    refine List.filter_congr fun y _ => ?_
    rw [Bool.and_comm]
  have ha2 := ha.filter (fun y => decide (lo ≤ y))
  rw [e]
  rw [h] at ha2 ⊢
  rw [List.append_assoc] at ha2 ⊢
  have h3 := (List.pairwise_append.1 ha2).2.1
  have h4 := (List.pairwise_cons.1 h3).1
  rw [List.filter_append, List.filter_eq_self.2 (fun y hy => by simpa using hh y hy), List.filter_eq_nil_iff.2 (fun y hy => by
    rcases List.mem_append.1 hy with hy | hy
    · obtain rfl : y = x := by simpa using hy
      simp; omega
    · have := h4 y hy
      simp; omega), List.append_nil]
theorem cnt_at {l : List Nat} (ha : l.Pairwise (· < ·)) {k : Nat} (hk : k < l.length) : cntL l l[k] = k := by
  have h1 := at_cnt ha (List.getElem_mem hk)
  rw [getElem!_pos l _ h1.1] at h1
  rcases Nat.lt_trichotomy (cntL l l[k]) k with h | h | h
  · have := List.pairwise_iff_getElem.1 ha _ k h1.1 hk h
    omega
  · exact h
  · have := List.pairwise_iff_getElem.1 ha k _ hk h1.1 h
    omega
theorem rem_take {l : List Nat} {u k : Nat} (hk : k < l.length) : remL (l.take (k + 1)) u = if l[k] = u then remL (l.take k) u else remL (l.take k) u ++ [l[k]] := by
  unfold remL
  rw [List.take_succ_eq_append_getElem hk, List.filter_append]
  by_cases h : l[k] = u
  · rw [if_pos h, List.filter_cons_of_neg (by simpa using h), List.filter_nil, List.append_nil]
  · rw [if_neg h, List.filter_cons_of_pos (by simpa using h), List.filter_nil]
theorem bet_take {l : List Nat} {lo hi k : Nat} (hk : k < l.length) : betL (l.take (k + 1)) lo hi = if lo ≤ l[k] ∧ l[k] ≤ hi then betL (l.take k) lo hi ++ [l[k]] else betL (l.take k) lo hi := by
  unfold betL
  rw [List.take_succ_eq_append_getElem hk, List.filter_append]
  by_cases h : lo ≤ l[k] ∧ l[k] ≤ hi
  · rw [if_pos h, List.filter_cons_of_pos (by simpa using h), List.filter_nil]
  · rw [if_neg h, List.filter_cons_of_neg (by simpa using h), List.filter_nil, List.append_nil]
theorem last_get {l : List Nat} (h : 0 < l.length) : lastL l = l[l.length - 1] := by
  unfold lastL atL
  rw [if_pos ⟨by omega, by omega⟩, show (((l.length : Nat) : Int) - 1).toNat = l.length - 1 by omega, getElem!_pos l _ (by omega)]
end Go.Proofs.Ytefodmbaknedkaa

namespace Go.Proofs.Ytefodmbaknedkaa
open Go.RowKit

/-- What a view keeps: ascending, above 0, in bounds. -/
def goodV (v : List Nat) : Prop := v.Pairwise (· < ·) ∧ ∀ u ∈ v, 0 < u ∧ u ≤ 4294967295
theorem goodV.nil : goodV [] := ⟨.nil, fun _ h => by cases h⟩
end Go.Proofs.Ytefodmbaknedkaa

namespace Go.Proofs.Ytefodmbaknedkaa
open Go.RowKit

/-- A response with a number alone; a Fetched with flags. -/
def rN (k : Int) (n : Nat) : RI := ⟨k, n, [], 0, [], 0, 0, 0, 0, []⟩
def rF (n f : Nat) : RI := ⟨4, n, [], 0, [], 1, f, 0, 0, []⟩
def nextA : List EvI → Bool
  | [] => false
  | y :: _ => decide (y.k = 1)
def addV (v : List Nat) (u : Nat) : List Nat := if lastL v < u then v ++ [u] else v
/-- The view and the responses behind events; g: it has grown, and this was not told. -/
def apV : List Nat → Bool → List EvI → List Nat × List RI
  | v, _, [] => (v, [])
  | v, g, e :: l =>
    if e.k = 1 then
      if ((g || decide (lastL v < e.u)) && !nextA l) = true then ((apV (addV v e.u) false l).1, rN 1 (addV v e.u).length :: (apV (addV v e.u) false l).2)
      else apV (addV v e.u) (g || decide (lastL v < e.u)) l
    else if e.k = 2 then
      if e.u ∈ v then ((apV (remL v e.u) g l).1, rN 3 (posL v e.u) :: (apV (remL v e.u) g l).2) else apV v g l
    else if e.k = 3 then
      if e.u ∈ v then ((apV v g l).1, rF (posL v e.u) e.f :: (apV v g l).2) else apV v g l
    else apV v g l
/-- One event. -/
def stepV (v : List Nat) (e : EvI) : List Nat := if e.k = 1 then addV v e.u else if e.k = 2 then remL v e.u else v
theorem apV_view : ∀ (l : List EvI) (v : List Nat) (g : Bool), (apV v g l).1 = l.foldl stepV v
  | [], v, g => rfl
  | e :: l, v, g => by
    rw [List.foldl_cons]
    unfold apV stepV
    by_cases h1 : e.k = 1
    · rw [if_pos h1, if_pos h1]
      split
      · exact apV_view l _ _
      · exact apV_view l _ _
    · rw [if_neg h1, if_neg h1]
      by_cases h2 : e.k = 2
      · rw [if_pos h2, if_pos h2]
        by_cases hm : e.u ∈ v
        · rw [if_pos hm]
          exact apV_view l _ _
        · rw [if_neg hm, rem_not hm]
          exact apV_view l _ _
      · rw [if_neg h2, if_neg h2]
        split
        · split
          · exact apV_view l _ _
          · exact apV_view l _ _
        · exact apV_view l _ _
theorem addV_len (v : List Nat) (u : Nat) : (addV v u).length ≤ v.length + 1 := by
  unfold addV
  split
  · simp
  · omega
theorem remL_len (v : List Nat) (u : Nat) : (remL v u).length ≤ v.length := List.length_filter_le _ _
theorem stepV_len (v : List Nat) (e : EvI) : (stepV v e).length ≤ v.length + 1 := by
  unfold stepV
  split
  · exact addV_len v e.u
  · split
    · have := remL_len v e.u; omega
    · omega
theorem foldV_len : ∀ (l : List EvI) (v : List Nat), (l.foldl stepV v).length ≤ v.length + l.length
  | [], v => by simp
  | e :: l, v => by
    rw [List.foldl_cons, List.length_cons]
    have := foldV_len l (stepV v e)
    have := stepV_len v e
    omega
theorem goodV.add {v : List Nat} (h : goodV v) {u : Nat} (hu : u ≤ 4294967295) : goodV (addV v u) := by
  unfold addV
  split
  · next e =>
    refine ⟨asc_snoc h.1 e, fun x hx => ?_⟩
    rcases List.mem_append.1 hx with e2 | e2
    · exact h.2 x e2
    · obtain rfl := List.mem_singleton.1 e2
      omega
  · exact h
theorem goodV.rem {v : List Nat} (h : goodV v) (u : Nat) : goodV (remL v u) := ⟨h.1.filter _, fun x hx => h.2 x (List.mem_filter.1 hx).1⟩
theorem goodV.step {v : List Nat} (h : goodV v) {e : EvI} (he : evOk e) : goodV (stepV v e) := by
  unfold stepV
  split
  · exact h.add he.2.1
  · split
    · exact h.rem _
    · exact h
theorem goodV.fold : ∀ {l : List EvI} {v : List Nat}, goodV v → (∀ e ∈ l, evOk e) → goodV (l.foldl stepV v)
  | [], _, h, _ => h
  | e :: l, v, h, he => by
    rw [List.foldl_cons]
    exact goodV.fold (h.step (he e (List.mem_cons_self ..))) fun x hx => he x (List.mem_cons_of_mem _ hx)
/-- The responses are no more than the events. -/
theorem apV_len : ∀ (l : List EvI) (v : List Nat) (g : Bool), (apV v g l).2.length ≤ l.length
  | [], v, g => Nat.le_refl _
  | e :: l, v, g => by
    have h1 := fun v g => apV_len l v g
    unfold apV
    rw [List.length_cons]
    split
    · split
      · have := h1 (addV v e.u) false
        simp only [List.length_cons]; omega
      · have := h1 (addV v e.u) (g || decide (lastL v < e.u)); omega
    · split
      · split
        · have := h1 (remL v e.u) g
          simp only [List.length_cons]; omega
        · have := h1 v g; omega
      · split
        · split
          · have := h1 v g
            simp only [List.length_cons]; omega
          · have := h1 v g; omega
        · have := h1 v g; omega
/-- Only these fields are set. -/
structure plainR (r : RI) : Prop where
  tag : r.tag = []
  status : r.status = 0
  text : r.text = []
  uid : r.uid = 0
  size : r.size = 0
  body : r.body = []
theorem plain_N (k : Int) (n : Nat) : plainR (rN k n) := ⟨rfl, rfl, rfl, rfl, rfl, rfl⟩
theorem plain_F (n f : Nat) : plainR (rF n f) := ⟨rfl, rfl, rfl, rfl, rfl, rfl⟩
theorem apV_plain : ∀ (l : List EvI) (v : List Nat) (g : Bool), ∀ r ∈ (apV v g l).2, plainR r
  | [], v, g => fun _ h => by cases h
  | e :: l, v, g => by
    have key : ∀ (x : RI) (v : List Nat) (g : Bool), plainR x → ∀ r ∈ x :: (apV v g l).2, plainR r := fun x v g hx r hr => by
      rcases List.mem_cons.1 hr with h | h
      · rw [h]; exact hx
      · exact apV_plain l v g r h
    unfold apV
    split
    · split
      · exact key _ _ _ (plain_N _ _)
      · exact apV_plain l _ _
    · split
      · split
        · exact key _ _ _ (plain_N _ _)
        · exact apV_plain l _ _
      · split
        · split
          · exact key _ _ _ (plain_F _ _)
          · exact apV_plain l _ _
        · exact apV_plain l _ _
/-- A client's number of messages behind a response. -/
def folV (n : Nat) (r : RI) : Nat × Bool :=
  if r.kind = 1 then (max r.n n, decide (n ≤ r.n)) else if r.kind = 3 then (if 1 ≤ r.n ∧ r.n ≤ n then (n - 1, true) else (n, false)) else if r.kind = 4 then (n, decide (1 ≤ r.n ∧ r.n ≤ n)) else (n, true)
def folsV : Nat → List RI → Option Nat
  | n, [] => some n
  | n, r :: l => if (folV n r).2 = true then folsV (folV n r).1 l else none
theorem posL_le (v : List Nat) (u : Nat) : posL v u ≤ v.length + 1 := by
  unfold posL
  split
  · have := cnt_le v u; omega
  · omega
/-- No number told is greater than the view and the events are long. -/
theorem apV_n : ∀ (l : List EvI) (v : List Nat) (g : Bool), ∀ r ∈ (apV v g l).2, r.n ≤ v.length + l.length
  | [], v, g => fun _ h => by cases h
  | e :: l, v, g => by
    have key : ∀ (x : RI) (v' : List Nat) (g : Bool), x.n ≤ v.length + 1 → v'.length ≤ v.length + 1 → ∀ r ∈ x :: (apV v' g l).2, r.n ≤ v.length + (l.length + 1) := fun x v' g hx hv r hr => by
      rcases List.mem_cons.1 hr with h | h
      · rw [h]; omega
      · have := apV_n l v' g r h; omega
    have key0 : ∀ (v' : List Nat) (g : Bool), v'.length ≤ v.length + 1 → ∀ r ∈ (apV v' g l).2, r.n ≤ v.length + (l.length + 1) := fun v' g hv r hr => by
      have := apV_n l v' g r hr; omega
    have ha := addV_len v e.u
    have hr := remL_len v e.u
    have hp := posL_le v e.u
    rw [List.length_cons]
    unfold apV
    split
    · split
      · exact key _ _ _ ha ha
      · exact key0 _ _ ha
    · split
      · split
        · exact key _ _ _ hp (by omega)
        · exact key0 _ _ (by omega)
      · split
        · split
          · exact key _ _ _ hp (by omega)
          · exact key0 _ _ (by omega)
        · exact key0 _ _ (by omega)
theorem folV_le (n : Nat) (r : RI) : (folV n r).1 ≤ max n r.n := by
  unfold folV
  split
  · simp only; omega
  · split
    · split <;> simp only <;> omega
    · split <;> simp only <;> omega
theorem posL_pos {v : List Nat} {u : Nat} (hu : u ∈ v) (ha : v.Pairwise (· < ·)) : 1 ≤ posL v u ∧ posL v u ≤ v.length := by
  unfold posL
  rw [if_pos hu]
  have := (at_cnt ha hu).1
  omega
theorem remL_one {v : List Nat} {u : Nat} (hu : u ∈ v) (ha : v.Pairwise (· < ·)) : (remL v u).length = v.length - 1 := by
  obtain ⟨a, b, hl, h1, h2, _⟩ := asc_split ha hu
  rw [rem_split hl h1 h2, hl]
  simp
/-- A client that follows the responses knows the number of messages, and none of them is wrong. -/
theorem folsV_ap : ∀ (l : List EvI) (v : List Nat) (g : Bool) (n : Nat), goodV v → (∀ e ∈ l, evOk e) → n ≤ v.length → (g = false → n = v.length) → (g = true → nextA l = true) → folsV n (apV v g l).2 = some (apV v g l).1.length
  | [], v, g, n, _, _, _, h0, h1 => by
    cases g with
    | false => unfold apV folsV; rw [h0 rfl]
    | true => exact absurd (h1 rfl) (by simp [nextA])
  | e :: l, v, g, n, hv, he, hn, h0, h1 => by
    have hel := fun x hx => he x (List.mem_cons_of_mem e hx)
    have hee := he e (List.mem_cons_self ..)
    unfold apV
    by_cases k1 : e.k = 1
    · rw [if_pos k1]
      have hlen : n ≤ (addV v e.u).length := by
        unfold addV
        split
        · simp; omega
        · exact hn
      split
      · unfold folsV
        have hf : folV n (rN 1 (addV v e.u).length) = ((addV v e.u).length, true) := by
          unfold folV rN
          simp only [if_true]
          rw [Nat.max_eq_left hlen, decide_eq_true hlen]
        rw [hf]
        simp only [if_true]
        exact folsV_ap l _ false _ (hv.add hee.2.1) hel (Nat.le_refl _) (fun _ => rfl) (fun h => by cases h)
      · next hc =>
        refine folsV_ap l _ _ n (hv.add hee.2.1) hel hlen (fun hg => ?_) (fun hg => ?_)
        · rw [Bool.or_eq_false_iff] at hg
          rw [h0 hg.1]
          unfold addV
          rw [if_neg (of_decide_eq_false hg.2)]
        · rw [hg] at hc
          simpa using hc
    · have hg : g = false := by
        cases g with
        | false => rfl
        | true =>
          have := h1 rfl
          simp [nextA, k1] at this
      subst hg
      have hnv := h0 rfl
      subst hnv
      rw [if_neg k1]
      by_cases k2 : e.k = 2
      · rw [if_pos k2]
        by_cases hm : e.u ∈ v
        · rw [if_pos hm]
          unfold folsV
          have hp := posL_pos hm hv.1
          have hf : folV v.length (rN 3 (posL v e.u)) = (v.length - 1, true) := by
            unfold folV rN
            simp only
            rw [if_neg (by decide), if_pos trivial, if_pos hp]
          rw [hf]
          simp only [if_true]
          exact folsV_ap l _ false _ (hv.rem _) hel (by rw [remL_one hm hv.1]; omega) (fun _ => (remL_one hm hv.1).symm) (fun h => by cases h)
        · rw [if_neg hm]
          exact folsV_ap l _ false _ hv hel (Nat.le_refl _) (fun _ => rfl) (fun h => by cases h)
      · rw [if_neg k2]
        by_cases k3 : e.k = 3
        · rw [if_pos k3]
          by_cases hm : e.u ∈ v
          · rw [if_pos hm]
            unfold folsV
            have hp := posL_pos hm hv.1
            have hf : folV v.length (rF (posL v e.u) e.f) = (v.length, true) := by
              unfold folV rF
              simp only
              rw [if_neg (by decide), if_neg (by decide), if_pos trivial, decide_eq_true hp]
            rw [hf]
            simp only [if_true]
            exact folsV_ap l _ false _ hv hel (Nat.le_refl _) (fun _ => rfl) (fun h => by cases h)
          · rw [if_neg hm]
            exact folsV_ap l _ false _ hv hel (Nat.le_refl _) (fun _ => rfl) (fun h => by cases h)
        · rw [if_neg k3]
          exact folsV_ap l _ false _ hv hel (Nat.le_refl _) (fun _ => rfl) (fun h => by cases h)
end Go.Proofs.Ytefodmbaknedkaa

namespace Go.Proofs.Ytefodmbaknedkaa
open Go.RowKit

set_option maxRecDepth 100000 in
set_option maxHeartbeats 1000000 in
theorem vfollow_any (n : Nat) (hn : n ≤ 4294967295) (r : RI) (A : Option Addr) (c : Nat) (hr : r.n ≤ 4294967295) (w : World) :
    Calls Try.prog 21 #[.int .i64 (n : Int), rsV r A c] w fun e w' => e = .returned (.tuple #[.int .i64 ((folV n r).1 : Int), .bool (folV n r).2]) ∧ Below w.heap.size w w' := by
  obtain ⟨kind, m, tag, status, text, items, flags, uid, size, body⟩ := r
  simp only at hr
  unfold folV rsV
  simp only
  have HB := Lib.hid (below_al w (.cells #[.int .i64 kind, .int .u32 (m : Int), .string ⟨tag.toArray⟩, .int .i64 status, .string ⟨text.toArray⟩, .int .i64 items, .int .u8 (flags : Int), .int .u32 (uid : Int), .int .u32 (size : Int), .slice A body.length c] 47))
  have hw : IntKind.i64.wrap (m : Int) = (m : Int) := IntWalk.i64_in _ (by omega)
  generalize ByteArray.mk tag.toArray = v2 at *
  generalize ByteArray.mk text.toArray = v4 at *
  generalize (flags : Int) = v6 at *
  generalize (uid : Int) = v7 at *
  generalize (size : Int) = v8 at *
  generalize body.length = v9 at *
  by_cases h1 : kind = 1
  · subst h1
    rw [if_pos rfl]
    by_cases a1 : 1 ≤ m
    · have b1 : (1 : Int) ≤ (m : Int) := by omega
      go_enter Try.func21, Try.ntmps21
      go_wp2_with fail
      go_ret2
      refine ⟨?_, HB.out⟩
      simp
      omega
    · have b1 : ¬ (1 : Int) ≤ (m : Int) := by omega
      go_enter Try.func21, Try.ntmps21
      go_wp2_with fail
      go_ret2
      refine ⟨?_, HB.out⟩
      simp
      omega
  · have n1 : (kind == 1) = false := beq_eq_false_iff_ne.2 h1
    rw [if_neg h1]
    by_cases h3 : kind = 3
    · subst h3
      rw [if_pos rfl]
      clear h1 n1
      by_cases a1 : 1 ≤ m
      · have b1 : (1 : Int) ≤ (m : Int) := by omega
        by_cases a2 : m ≤ n
        · have b2 : (m : Int) ≤ (n : Int) := by omega
          have hs : ((n - 1 : Nat) : Int) = (n : Int) - 1 := by omega
          rw [if_pos ⟨a1, a2⟩, hs]
          have hw2 : IntKind.i64.wrap ((n : Int) - 1) = (n : Int) - 1 := IntWalk.i64_in _ (by omega)
          clear a1 a2 hs
          go_enter Try.func21, Try.ntmps21
          go_wp2_with fail
          go_ret2
          exact ⟨rfl, HB.out⟩
        · have b2 : ¬ (m : Int) ≤ (n : Int) := by omega
          rw [if_neg (fun h => a2 h.2)]
          clear a1 a2
          go_enter Try.func21, Try.ntmps21
          go_wp2_with fail
          go_ret2
          exact ⟨rfl, HB.out⟩
      · have b1 : ¬ (1 : Int) ≤ (m : Int) := by omega
        rw [if_neg (fun h => a1 h.1)]
        clear a1
        go_enter Try.func21, Try.ntmps21
        go_wp2_with fail
        go_ret2
        exact ⟨rfl, HB.out⟩
    · have n3 : (kind == 3) = false := beq_eq_false_iff_ne.2 h3
      rw [if_neg h3]
      by_cases a1 : 1 ≤ m
      · have b1 : (1 : Int) ≤ (m : Int) := by omega
        by_cases h4 : kind = 4
        · subst h4
          rw [if_pos rfl]
          clear h1 n1 h3 n3
          go_enter Try.func21, Try.ntmps21
          go_wp2_with fail
          go_ret2
          refine ⟨?_, HB.out⟩
          simp
          omega
        · have n4 : (kind == 4) = false := beq_eq_false_iff_ne.2 h4
          rw [if_neg h4]
          go_enter Try.func21, Try.ntmps21
          go_wp2_with fail
          go_ret2
          exact ⟨rfl, HB.out⟩
      · have b1 : ¬ (1 : Int) ≤ (m : Int) := by omega
        by_cases h4 : kind = 4
        · subst h4
          rw [if_pos rfl, decide_eq_false (fun h => a1 h.1)]
          clear h1 n1 h3 n3 a1
          go_enter Try.func21, Try.ntmps21
          go_wp2_with fail
          go_ret2
          exact ⟨rfl, HB.out⟩
        · have n4 : (kind == 4) = false := beq_eq_false_iff_ne.2 h4
          rw [if_neg h4]
          clear a1
          go_enter Try.func21, Try.ntmps21
          go_wp2_with fail
          go_ret2
          exact ⟨rfl, HB.out⟩
end Go.Proofs.Ytefodmbaknedkaa
