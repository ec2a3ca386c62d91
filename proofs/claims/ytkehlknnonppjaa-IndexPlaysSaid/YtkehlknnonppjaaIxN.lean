/- index: New. -/
import Derived.Test.YtkehlknnonppjaaIxA
namespace Go.Proofs.Ytkehlknnonppjaa
open Go.RowKit

/-- Two ascending lists with the same members are one. -/
theorem asc_unique : ∀ {a b : List Nat}, a.Pairwise (· < ·) → b.Pairwise (· < ·) → (∀ n, n ∈ a ↔ n ∈ b) → a = b
  | [], [], _, _, _ => rfl
  | [], y :: b, _, _, h => by have := (h y).2 (by simp); cases this
  | x :: a, [], _, _, h => by have := (h x).1 (by simp); cases this
  | x :: a, y :: b, ha, hb, h => by
    have ha' := List.pairwise_cons.1 ha
    have hb' := List.pairwise_cons.1 hb
    have hxy : x = y := by
      rcases List.mem_cons.1 ((h x).1 (by simp)) with e | hx
      · exact e
      · rcases List.mem_cons.1 ((h y).2 (by simp)) with e | hy
        · exact e.symm
        · have := ha'.1 y hy
          have := hb'.1 x hx
          omega
    subst hxy
    rw [asc_unique ha'.2 hb'.2 (fun n => ?_)]
    have := h n
    simp only [List.mem_cons] at this
    constructor
    · intro hn
      rcases this.1 (.inr hn) with e | e
      · have := ha'.1 n hn; omega
      · exact e
    · intro hn
      rcases this.2 (.inr hn) with e | e
      · have := hb'.1 n hn; omega
      · exact e
/-- What New makes of a list. -/
def IsSet (O l : List Nat) : Prop := O.Pairwise (· < ·) ∧ ∀ n, n ∈ O ↔ n ∈ l ∧ 0 < n
theorem IsSet.det {O P l : List Nat} (h : IsSet O l) (k : IsSet P l) : O = P := asc_unique h.1 k.1 fun n => (h.2 n).trans (k.2 n).symm
theorem isSet_ex : ∀ (l : List Nat), ∃ O, IsSet O l ∧ O.length ≤ l.length
  | [] => ⟨[], ⟨List.Pairwise.nil, by simp⟩, Nat.le_refl _⟩
  | x :: l => by
    obtain ⟨O, ⟨h1, h2⟩, h3⟩ := isSet_ex l
    by_cases hx : x = 0 ∨ x ∈ O
    · refine ⟨O, ⟨h1, fun n => ?_⟩, by simp; omega⟩
      rw [h2 n, List.mem_cons]
      constructor
      · exact fun h => ⟨.inr h.1, h.2⟩
      · rintro ⟨rfl | h, h0⟩
        · rcases hx with rfl | hx
          · omega
          · exact (h2 _).1 hx
        · exact ⟨h, h0⟩
    · refine ⟨O.filter (fun y => decide (y < x)) ++ [x] ++ O.filter (fun y => decide (x < y)), ⟨?_, fun n => ?_⟩, ?_⟩
      · refine List.pairwise_append.2 ⟨List.pairwise_append.2 ⟨h1.filter _, List.pairwise_singleton _ _, fun y hy z hz => ?_⟩, h1.filter _, fun y hy z hz => ?_⟩
        · obtain rfl : z = x := by simpa using hz
          simpa using (List.mem_filter.1 hy).2
        · have hz2 : x < z := by simpa using (List.mem_filter.1 hz).2
          rcases List.mem_append.1 hy with hy | hy
          · have : y < x := by simpa using (List.mem_filter.1 hy).2
            omega
          · obtain rfl : y = x := by simpa using hy
            exact hz2
      · simp only [List.mem_append, List.mem_filter, List.mem_cons, List.not_mem_nil, or_false, decide_eq_true_eq]
        constructor
        · rintro ((⟨h, _⟩ | h) | ⟨h, _⟩)
          · exact ⟨.inr ((h2 n).1 h).1, ((h2 n).1 h).2⟩
          · exact ⟨.inl h, by omega⟩
          · exact ⟨.inr ((h2 n).1 h).1, ((h2 n).1 h).2⟩
        · rintro ⟨h | h, h0⟩
          · exact .inl (.inr h)
          · have hn : n ∈ O := (h2 n).2 ⟨h, h0⟩
            rcases Nat.lt_trichotomy n x with h4 | h4 | h4
            · exact .inl (.inl ⟨hn, h4⟩)
            · exact .inl (.inr h4)
            · exact .inr ⟨hn, h4⟩
      · have h4 : (O.filter fun y => decide (y < x)).length + (O.filter fun y => decide (x < y)).length ≤ O.length := by
          rw [← List.countP_eq_length_filter, ← List.countP_eq_length_filter]
          have e := List.length_eq_countP_add_countP (fun y => decide (y < x)) (l := O)
          have : O.countP (fun y => decide (x < y)) ≤ O.countP (fun y => decide ¬decide (y < x) = true) := List.countP_mono_left fun y _ hy => by
            simp at hy ⊢
            omega
          omega
        simp only [List.length_append, List.length_cons, List.length_nil]
        omega
theorem last_mem {l : List Nat} (h : l ≠ []) : lastL l ∈ l := by
  have hl : 0 < l.length := List.length_pos_iff.2 h
  unfold lastL atL
  rw [if_pos ⟨by omega, by omega⟩, show (((l.length : Nat) : Int) - 1).toNat = l.length - 1 by omega]
  show l[l.length - 1]! ∈ l
  rw [getElem!_pos l _ (by omega)]
  exact List.getElem_mem _
/-- One more of an ascending list. -/
theorem isSet_step {L S : List Nat} {k : Nat} (hk : k < S.length) (hS : S.Pairwise (· ≤ ·)) (h : IsSet L (S.take k)) : IsSet (if lastL L < S[k] then L ++ [S[k]] else L) (S.take (k + 1)) := by
  rw [List.take_succ_eq_append_getElem hk]
  by_cases hlt : lastL L < S[k]
  · rw [if_pos hlt]
    refine ⟨asc_snoc h.1 hlt, fun n => ?_⟩
    rw [List.mem_append, List.mem_append, h.2 n, List.mem_singleton]
    constructor
    · rintro (h | rfl)
      · exact ⟨.inl h.1, h.2⟩
      · exact ⟨.inr rfl, by omega⟩
    · rintro ⟨h | rfl, h0⟩
      · exact .inl ⟨h, h0⟩
      · exact .inr rfl
  · rw [if_neg hlt]
    refine ⟨h.1, fun n => ?_⟩
    rw [List.mem_append, h.2 n, List.mem_singleton]
    constructor
    · exact fun h => ⟨.inl h.1, h.2⟩
    · rintro ⟨h1 | rfl, h0⟩
      · exact ⟨h1, h0⟩
      · have hne : L ≠ [] := by
          rintro rfl
          have : lastL [] = 0 := rfl
          omega
        have hm := last_mem hne
        have h2 := (h.2 _).1 hm
        obtain ⟨i, hi, he⟩ := List.mem_iff_getElem.1 h2.1
        rw [List.length_take] at hi
        rw [List.getElem_take] at he
        have := List.pairwise_iff_getElem.1 hS i k (by omega) hk (by omega)
        have e : S[k] = lastL L := by omega
        rw [e]
        exact h2

theorem ix_new (w : World) : Ix w.heap.size w.heap.size [] (w.alloc (.cells #[.slice none 0 0] 51)) :=
  ⟨⟨none, 0, heap_alloc_new _ _, World.ownsRow_nil _ _ _ _, .inl ⟨rfl, rfl⟩⟩, List.Pairwise.nil, (fun _ h => by cases h), Nat.zero_le _⟩

set_option maxRecDepth 100000 in
set_option maxHeartbeats 1000000 in
theorem new_any (A : Option Addr) (c : Nat) (l O : List Nat) (hl : l.length ≤ 1000) (hb : ∀ n ∈ l, n ≤ 4294967295) (hO : IsSet O l) (w : World) (hS : SlAt encU 1 w A l) :
    Calls Try.prog 9 #[.slice A l.length c] w fun e w' => ∃ g r, e = .returned (.pointer (some ⟨g, 0, none⟩)) ∧ w.heap.size ≤ g ∧ w.heap.size ≤ r ∧ Hid (Ix g r O w') ∧ Hid (Below w.heap.size w w') := by
  have CL := Lib.hid (clone_any A c l (by omega) w hS)
  have ST := Lib.hid (fun v w1 hB ho => sort_any w.heap.size v l (by omega) w1 hB ho)
  have HO := Lib.hid hO
  have HBd := Lib.hid hb
  clear hS hO hb
  go_enter Try.func9, Try.ntmps9
  go_wp2_with fail
  refine CL.out.mono ?_
  rintro e w1 ⟨v, rfl, ho, hB1⟩
  have S1 := Lib.hid (ST.out v w1 hB1.size ho)
  have HB1 := Lib.hid hB1
  clear CL ST ho hB1
  go_wp2_with fail
  refine S1.out.mono ?_
  rintro e w2 ⟨rfl, ⟨S, A2, c2, rfl, hperm, hsorted, hS2⟩, hB2⟩
  have HB2 := Lib.hid (HB1.out.trans hB2)
  have HS2 := Lib.hid hS2
  have HSo := Lib.hid hsorted
  have HP := Lib.hid hperm
  have hlen : S.length ≤ l.length ∧ l.length ≤ S.length := ⟨by rw [hperm.length_eq]; exact Nat.le_refl _, by rw [hperm.length_eq]; exact Nat.le_refl _⟩
  have X0 := Lib.hid (ix_new w2)
  have hsz := HB2.out.size
  clear S1 hB2 hS2 hsorted hperm HB1
  go_wp2_with fail
  go_loopw [15] (fun s15 wr => ∃ (k r : Nat) (L : List Nat), s15 = .int .i64 k ∧ k ≤ l.length ∧ w2.heap.size ≤ r ∧ L.length ≤ k ∧ Hid (Ix w2.heap.size r L wr) ∧ Hid (Below w2.heap.size w2 wr) ∧ Hid (IsSet L (S.take k))) (fun s15 _ => l.length - (intOf s15).toNat)
  case atStart => exact ⟨0, w2.heap.size, [], rfl, Nat.zero_le _, Nat.le_refl _, Nat.le_refl _, X0, below_al _ _, ⟨List.Pairwise.nil, by simp⟩⟩
  case round =>
    obtain ⟨k, r, L, rfl, hk, hr, hLk, X1, B1, I1⟩ := hrel
    clear X0
    by_cases hlt : k < l.length
    · have hkS : k < S.length := by omega
      obtain ⟨b, off, rfl, hb, hx⟩ := (HS2.out.below B1.out).one hkS
      have hxb := HBd.out S[k] (HP.out.mem_iff.1 (List.getElem_mem hkS))
      have I2 := Lib.hid (isSet_step hkS HSo.out I1.out)
      clear I1
      generalize S[k] = x at *
      have AP := Lib.hid (ixappend_any x hxb (by omega) X1.out)
      clear X1
      go_wp2_with fail
      refine AP.out.mono ?_
      rintro e w3 ⟨rfl, r', L', hL', X2, T2, hr'⟩
      have I3 : Hid (IsSet L' (S.take (k + 1))) := by rw [hL']; exact I2.out
      have hL2 : L'.length ≤ k + 1 := by
        rw [hL']
        split
        · simp; omega
        · omega
      have B2 := Lib.hid (B1.out.trans (T2.out.below (Nat.le_refl _) hr B1.out.size))
      have hr2 : w2.heap.size ≤ r' := by have := B1.out.size; omega
      clear AP I2 hL' B1 T2
      go_wp2_with fail
      go_roundw
      case rel => exact ⟨k + 1, r', L', by go_num, by omega, hr2, hL2, X2, B2, I3⟩
      case measure => simp [intOf]; omega
    · have e : L = O := IsSet.det I1.out (by
        have : S.take k = S := List.take_of_length_le (by omega)
        rw [this]
        exact ⟨HO.out.1, fun n => (HO.out.2 n).trans (by rw [HP.out.mem_iff])⟩)
      subst e
      go_wp2_with fail
      go_ret
      exact ⟨_, r, rfl, hsz, by omega, X1, HB2.out.trans (B1.out.mono hsz)⟩
end Go.Proofs.Ytkehlknnonppjaa
