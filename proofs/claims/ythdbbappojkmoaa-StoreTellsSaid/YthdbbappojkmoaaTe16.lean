/- StoreTells in plain words: who is told what. No walk. -/
import Derived.Test.YthdbbappojkmoaaHc
namespace Go.Proofs.Ythdbbappojkmoaa
open Go.RowKit

/-- j of the subscribers 0, 1, .. are there; nothing has happened. -/
structure Te1 (j : Nat) (st : StP) : Prop where
  cap : st.cap = 5
  next : st.next = 1
  ms : st.ms = []
  small : smallP st 0
  sub : ∀ i : Nat, i < j → st.sub i = some []
  free : ∀ i : Nat, j ≤ i → st.sub i = none
  neg : ∀ i : Int, i < 0 → st.sub i = none
theorem Te1.start : Te1 0 (newP 2 5 1) := ⟨rfl, rfl, rfl, (fun i q e => by cases e), (fun i h => by omega), (fun _ _ => rfl), fun _ _ => rfl⟩
theorem Te1.step {j : Nat} {st : StP} (h : Te1 j st) : (subP st j).2 = 0 ∧ Te1 (j + 1) (subP st j).1 := by
  have hs : smallP (subP st j).1 0 := h.small.sub j
  unfold subP at hs ⊢
  have hn : ¬ (st.sub (j : Int)).isSome = true := by rw [h.free j (Nat.le_refl _)]; simp
  rw [if_neg (by omega), if_neg hn] at hs ⊢
  refine ⟨rfl, h.cap, h.next, h.ms, hs, fun i hi => ?_, fun i hi => ?_, fun i hi => by simp only; rw [if_neg (by omega)]; exact h.neg i hi⟩
  · simp only
    by_cases e : i = j
    · subst e
      rw [if_pos rfl]
    · rw [if_neg (by omega), h.sub i (by omega)]
  · simp only
    rw [if_neg (by omega), h.free i (by omega)]
theorem Te1.few {j : Nat} {st : StP} (h : Te1 j st) (hj : j ≤ 1000) : fewP st := by
  refine ⟨(List.range j).map fun n : Nat => (n : Int), by rw [List.length_map, List.length_range]; omega, fun i e => ?_⟩
  rcases Int.lt_or_le i 0 with h0 | h0
  · rw [h.neg i h0] at e
    cases e
  · obtain ⟨n, rfl⟩ : ∃ n : Nat, i = n := ⟨i.toNat, by omega⟩
    rcases Nat.lt_or_ge n j with h1 | h1
    · exact List.mem_map.2 ⟨n, List.mem_range.2 h1, rfl⟩
    · rw [h.free n h1] at e
      cases e
theorem Te1.uids {j : Nat} {st : StP} (h : Te1 j st) : uidsP st = [] := by
  unfold uidsP
  rw [h.ms]
  rfl
/-- What subscriber i is told. -/
def teE (a x i : Nat) : List EvI := if 0 < i ∧ x ≠ a then [⟨1, 1, 0⟩, ⟨3, 1, x⟩] else [⟨1, 1, 0⟩]
structure Te2 (k a : Nat) (st : StP) : Prop where
  ms : st.ms = [⟨1, a, []⟩]
  small : smallP st 1
  sub : ∀ i : Nat, i < k → st.sub i = some [⟨1, 1, 0⟩]
theorem Te1.app {k a : Nat} {st : StP} (h : Te1 k st) (ha : a ≤ 31) : (appP st a []).2 = (1, 0) ∧ Te2 k a (appP st a []).1 := by
  have hs := h.small.app a []
  have h1 := h.cap
  have h2 := h.next
  have h3 := h.ms
  rw [app_ok ha (by simp) (by rw [h1, h3]; decide) (by rw [h2]; decide)] at hs ⊢
  refine ⟨by simp only; rw [h2], by simp only; rw [h3, h2]; rfl, hs, fun i hi => ?_⟩
  simp only [tellP, h.sub i hi, Option.map_some]
  rw [if_neg (by omega), h2]
  rfl
/-- Subscribers from j on have not been told. -/
structure Te3 (k j a x : Nat) (st : StP) : Prop where
  small : smallP st 2
  sub : ∀ i : Nat, j ≤ i → i < k → st.sub i = some (teE a x i)
theorem changeO_some {a b : Nat} (ha : a ≤ 31) (hb : b ≤ 31) {m : Nat} (hm : m < 3) : ∃ x, changeO a m b = some x ∧ x ≤ 31 := by
  have h1 : a ||| b ≤ 31 := by
    have := Nat.or_lt_two_pow (n := 5) (x := a) (y := b) (by omega) (by omega)
    omega
  have h2 : a &&& (255 - b) ≤ 31 := Nat.le_trans Nat.and_le_left ha
  unfold changeO
  rw [if_neg (by omega)]
  by_cases m0 : m = 0
  · exact ⟨b, by rw [if_pos (by omega)], hb⟩
  · by_cases m1 : m = 1
    · exact ⟨_, by rw [if_neg (by omega), if_pos (by omega)], h1⟩
    · exact ⟨_, by rw [if_neg (by omega), if_neg (by omega), if_pos (by omega)], h2⟩
theorem Te2.chg {k a b m x : Nat} {st : StP} (h : Te2 k a st) (hx : changeO a m b = some x) : (chgP st 0 1 m b).2 = (x, 0) ∧ Te3 k 0 a x (chgP st 0 1 m b).1 := by
  have hs := h.small.chg 0 1 m b
  have hf : fndP st.ms 1 = some ⟨1, a, []⟩ := by rw [h.ms]; rfl
  have e : chgP st 0 1 m b = ({ st with ms := st.ms.map fun y => if y.u = 1 then { y with f := x } else y, sub := if x = a then st.sub else tellP 0 ⟨3, 1, x⟩ st.sub }, x, 0) := by
    unfold chgP
    rw [hf]
    simp only [hx]
  rw [e] at hs ⊢
  refine ⟨rfl, hs, fun i _ hi => ?_⟩
  simp only
  unfold teE
  by_cases hxa : x = a
  · rw [if_pos hxa, if_neg (by omega), h.sub i hi]
  · rw [if_neg hxa]
    simp only [tellP, h.sub i hi, Option.map_some]
    by_cases h0 : i = 0
    · subst h0
      rw [if_pos (by rfl), if_neg (by omega)]
    · rw [if_neg (by omega), if_pos (by omega)]
      rfl
theorem teE_sq (a x i : Nat) : sqE (teE a x i) = teE a x i := by
  unfold teE
  split <;> rfl
theorem teE_len (a x i : Nat) : (teE a x i).length ≤ 2 := by
  unfold teE
  split <;> simp
theorem Te3.evs {k j a x : Nat} {st : StP} (h : Te3 k j a x st) (hj : j < k) : sqE (toldE true (evsP st j)) = teE a x j := by
  unfold evsP
  rw [h.sub j (Nat.le_refl _) hj, told_all]
  exact teE_sq a x j
theorem Te3.flush {k j a x : Nat} {st : StP} (h : Te3 k j a x st) : Te3 k (j + 1) a x (flushP st j true) := by
  refine ⟨h.small.flush j true, fun i h1 h2 => ?_⟩
  simp only [flushP]
  rw [if_neg (by omega), h.sub i (by omega) h2]
end Go.Proofs.Ythdbbappojkmoaa
