/- frame: lines, announcements, frames and their order. Plain facts, no walk. -/
import Derived.Test.YtldlghfjinpnkaaDoorRef04B
import Derived.Lib.IndexMore
namespace Go.Proofs.YtldlghfjinpnkaaDoor
open Go.Lib hiding intOf

/-- The bytes 13 and 10 stand at j. -/
def Mark (b : List UInt8) (j : Nat) : Prop := b[j]? = some 13 ∧ b[j + 1]? = some 10
instance (b : List UInt8) (j : Nat) : Decidable (Mark b j) := by unfold Mark; infer_instance
/-- Where the line that begins at k ends. -/
def endOf (b : List UInt8) (k : Nat) : Option Nat := (List.range b.length).find? fun i => decide (k ≤ i ∧ Mark b i)
theorem Mark.lt {b : List UInt8} {j : Nat} (h : Mark b j) : j + 1 < b.length := (List.getElem?_eq_some_iff.1 h.2).1
theorem endOf_some {b : List UInt8} {k e : Nat} : endOf b k = some e ↔ k ≤ e ∧ Mark b e ∧ ∀ j, k ≤ j → j < e → ¬ Mark b j := by
  unfold endOf
  rw [List.find?_range_eq_some]
  constructor
  · rintro ⟨h1, h2, h3⟩
    simp at h1
    refine ⟨h1.1, h1.2, fun j hk hj hm => ?_⟩
    have := h3 j hj
    simp [hk, hm] at this
  · rintro ⟨h1, h2, h3⟩
    refine ⟨by simp [h1, h2], by have := h2.lt; simp; omega, fun j hj => ?_⟩
    by_cases hk : k ≤ j
    · simp [hk, h3 j hk hj]
    · simp [hk]
theorem endOf_none {b : List UInt8} {k : Nat} : endOf b k = none ↔ ∀ j, k ≤ j → ¬ Mark b j := by
  unfold endOf
  rw [List.find?_range_eq_none]
  constructor
  · intro h j hk hm
    have := h j (by have := hm.lt; omega)
    simp [hk, hm] at this
  · intro h j _
    by_cases hk : k ≤ j
    · simp [hk, h j hk]
    · simp [hk]
theorem mark_append {b p : List UInt8} {j : Nat} (h : j + 1 < b.length) : Mark (b ++ p) j ↔ Mark b j := by
  unfold Mark
  rw [List.getElem?_append_left (by omega), List.getElem?_append_left h]
theorem endOf_append {b : List UInt8} {k e : Nat} (p : List UInt8) (h : endOf b k = some e) : endOf (b ++ p) k = some e := by
  rw [endOf_some] at h ⊢
  obtain ⟨h1, h2, h3⟩ := h
  have := h2.lt
  exact ⟨h1, (mark_append this).2 h2, fun j hk hj hm => h3 j hk hj ((mark_append (by omega)).1 hm)⟩
/-- No end from k on up to a: the search may begin at a. -/
theorem endOf_skip {b : List UInt8} {k a : Nat} (hk : k ≤ a) (h : ∀ j, k ≤ j → j < a → ¬ Mark b j) : endOf b k = endOf b a := by
  cases he : endOf b a with
  | none =>
    rw [endOf_none] at he ⊢
    intro j hj
    by_cases hja : j < a
    · exact h j hj hja
    · exact he j (by omega)
  | some e =>
    rw [endOf_some] at he ⊢
    obtain ⟨h1, h2, h3⟩ := he
    refine ⟨by omega, h2, fun j hj hje => ?_⟩
    by_cases hja : j < a
    · exact h j hj hja
    · exact h3 j (by omega) hje
theorem endOf_lt {b : List UInt8} {k e : Nat} (h : endOf b k = some e) : k ≤ e ∧ e + 1 < b.length := by
  rw [endOf_some] at h
  exact ⟨h.1, h.2.1.lt⟩
theorem endOf_past {b : List UInt8} {k : Nat} (h : b.length < k + 2) : endOf b k = none := by
  rw [endOf_none]
  intro j hj hm
  have := hm.lt
  omega

/-- What a line announces, as a function. -/
def annOf (l : List UInt8) : Option Nat :=
  (List.range l.length).findSome? fun k => if l[k]? = some 123 ∧ l[l.length - 1]? = some 125 then numOf ((l.take (l.length - 1)).drop (k + 1)) else none
theorem isAnn_of (l : List UInt8) : IsAnn l (annOf l) := by
  cases h : annOf l with
  | some n =>
    unfold annOf at h
    obtain ⟨k, hk, h1⟩ := List.exists_of_findSome?_eq_some h
    split at h1
    · rename_i hc
      obtain ⟨h2, h3⟩ := hc
      have hlt : k < l.length := by simpa using hk
      have hne : k ≠ l.length - 1 := by
        intro e
        rw [e, h3] at h2
        cases h2
      exact ref_ann_of (m := l.length - 1) (by omega) (by omega) h2 h3 h1
    · cases h1
  | none =>
    intro n hn
    unfold annOf at h
    rw [List.findSome?_eq_none_iff] at h
    have hn' := hn
    obtain ⟨hle, pre, rfl⟩ := hn
    have hlen : (pre ++ 123 :: (decDigits n ++ [125])).length - 1 = pre.length + 1 + (decDigits n).length := by simp; omega
    have h1 := h pre.length (by simp)
    have h125 := ann_last hn' (m := pre.length + 1 + (decDigits n).length) (by simp; omega)
    rw [hlen, if_pos ⟨by simp, h125⟩] at h1
    have e : pre ++ 123 :: (decDigits n ++ [125]) = (pre ++ 123 :: decDigits n) ++ [125] := by simp
    have el : (pre ++ 123 :: decDigits n).length = pre.length + 1 + (decDigits n).length := by simp; omega
    rw [e, ← el, List.take_left', show pre ++ 123 :: decDigits n = (pre ++ [123]) ++ decDigits n by simp, show pre.length + 1 = (pre ++ [123]).length by simp, List.drop_left, numOf_dec hle] at h1
    · cases h1
    · rfl
theorem annOf_le {l : List UInt8} {n : Nat} (h : annOf l = some n) : n ≤ 4294967295 := by
  have := isAnn_of l
  rw [h] at this
  exact isAnn_le this

/-- A frame. -/
structure Fr where
  kind : Nat
  data : List UInt8

/-- One step: the frame that is there for the bytes R, a line of which begins at k; what waits then. -/
def stepF (R : List UInt8) (k : Nat) : Option (Fr × List UInt8 × Nat) :=
  match endOf R k with
  | none => none
  | some e =>
    if 8192 < e - k then some (⟨3, (R.drop k).take 8192⟩, R.drop (e + 2), 0)
    else match annOf ((R.take e).drop k) with
      | none => some (⟨1, R.take e⟩, R.drop (e + 2), 0)
      | some n => if 65536 < n then some (⟨4, R.take e⟩, R.drop (e + 2), 0) else some (⟨2, []⟩, R, e + 2 + n)
theorem stepF_wait {R : List UInt8} {k : Nat} (h : endOf R k = none) : stepF R k = none := by unfold stepF; rw [h]
theorem stepF_none {R : List UInt8} {k : Nat} : stepF R k = none ↔ endOf R k = none := by
  constructor
  · intro h
    unfold stepF at h
    split at h
    · assumption
    · split at h
      · cases h
      · split at h
        · cases h
        · split at h <;> cases h
  · exact stepF_wait
theorem stepF_long {R : List UInt8} {k e : Nat} (h : endOf R k = some e) (hl : 8192 < e - k) : stepF R k = some (⟨3, (R.drop k).take 8192⟩, R.drop (e + 2), 0) := by
  unfold stepF; rw [h]; simp only; rw [if_pos hl]
theorem stepF_command {R : List UInt8} {k e : Nat} (h : endOf R k = some e) (hl : ¬ 8192 < e - k) (ha : annOf ((R.take e).drop k) = none) : stepF R k = some (⟨1, R.take e⟩, R.drop (e + 2), 0) := by
  unfold stepF; rw [h]; simp only; rw [if_neg hl, ha]
theorem stepF_big {R : List UInt8} {k e n : Nat} (h : endOf R k = some e) (hl : ¬ 8192 < e - k) (ha : annOf ((R.take e).drop k) = some n) (hn : 65536 < n) : stepF R k = some (⟨4, R.take e⟩, R.drop (e + 2), 0) := by
  unfold stepF; rw [h]; simp only; rw [if_neg hl, ha]; simp only; rw [if_pos hn]
theorem stepF_ready {R : List UInt8} {k e n : Nat} (h : endOf R k = some e) (hl : ¬ 8192 < e - k) (ha : annOf ((R.take e).drop k) = some n) (hn : ¬ 65536 < n) : stepF R k = some (⟨2, []⟩, R, e + 2 + n) := by
  unfold stepF; rw [h]; simp only; rw [if_neg hl, ha]; simp only; rw [if_neg hn]

theorem stepF_append {R R' : List UInt8} {k k' : Nat} {f : Fr} (p : List UInt8) (h : stepF R k = some (f, R', k')) : stepF (R ++ p) k = some (f, R' ++ p, k') := by
  cases he : endOf R k with
  | none => rw [stepF_wait he] at h; cases h
  | some e =>
    have hlt := endOf_lt he
    have he' := endOf_append p he
    have ht : (R ++ p).take e = R.take e := by rw [List.take_append_of_le_length (by omega)]
    have hd : (R ++ p).drop (e + 2) = R.drop (e + 2) ++ p := by rw [List.drop_append_of_le_length (by omega)]
    by_cases hl : 8192 < e - k
    · rw [stepF_long he hl] at h
      rw [stepF_long he' hl, hd]
      have : ((R ++ p).drop k).take 8192 = (R.drop k).take 8192 := by
        rw [List.drop_append_of_le_length (by omega), List.take_append_of_le_length (by rw [List.length_drop]; omega)]
      rw [this]
      simp only [Option.some.injEq, Prod.mk.injEq] at h
      obtain ⟨rfl, rfl, rfl⟩ := h
      rfl
    · cases ha : annOf ((R.take e).drop k) with
      | none =>
        rw [stepF_command he hl ha] at h
        rw [stepF_command he' hl (by rw [ht]; exact ha), hd, ht]
        simp only [Option.some.injEq, Prod.mk.injEq] at h
        obtain ⟨rfl, rfl, rfl⟩ := h
        rfl
      | some n =>
        by_cases hn : 65536 < n
        · rw [stepF_big he hl ha hn] at h
          rw [stepF_big he' hl (by rw [ht]; exact ha) hn, hd, ht]
          simp only [Option.some.injEq, Prod.mk.injEq] at h
          obtain ⟨rfl, rfl, rfl⟩ := h
          rfl
        · rw [stepF_ready he hl ha hn] at h
          rw [stepF_ready he' hl (by rw [ht]; exact ha) hn]
          simp only [Option.some.injEq, Prod.mk.injEq] at h
          obtain ⟨rfl, rfl, rfl⟩ := h
          rfl
/-- A step uses up two bytes at least. -/
theorem stepF_lt {R R' : List UInt8} {k k' : Nat} {f : Fr} (h : stepF R k = some (f, R', k')) : k + 2 ≤ R.length ∧ R'.length - k' + 2 ≤ R.length - k ∧ R'.length ≤ R.length ∧ f.data.length ≤ R.length := by
  cases he : endOf R k with
  | none => rw [stepF_wait he] at h; cases h
  | some e =>
    have hlt := endOf_lt he
    by_cases hl : 8192 < e - k
    · rw [stepF_long he hl] at h
      simp only [Option.some.injEq, Prod.mk.injEq] at h
      obtain ⟨rfl, rfl, rfl⟩ := h
      simp
      omega
    · cases ha : annOf ((R.take e).drop k) with
      | none =>
        rw [stepF_command he hl ha] at h
        simp only [Option.some.injEq, Prod.mk.injEq] at h
        obtain ⟨rfl, rfl, rfl⟩ := h
        simp
        omega
      | some n =>
        by_cases hn : 65536 < n
        · rw [stepF_big he hl ha hn] at h
          simp only [Option.some.injEq, Prod.mk.injEq] at h
          obtain ⟨rfl, rfl, rfl⟩ := h
          simp
          omega
        · rw [stepF_ready he hl ha hn] at h
          simp only [Option.some.injEq, Prod.mk.injEq] at h
          obtain ⟨rfl, rfl, rfl⟩ := h
          simp
          omega

/-- Steps one after another. -/
inductive Runs : List UInt8 → Nat → List Fr → List UInt8 → Nat → Prop
  | nil (R : List UInt8) (k : Nat) : Runs R k [] R k
  | cons {R R' R'' : List UInt8} {k k' k'' : Nat} {f : Fr} {fs : List Fr} : stepF R k = some (f, R', k') → Runs R' k' fs R'' k'' → Runs R k (f :: fs) R'' k''
theorem Runs.trans {R R' R'' : List UInt8} {k k' k'' : Nat} {fs gs : List Fr} (h : Runs R k fs R' k') (h2 : Runs R' k' gs R'' k'') : Runs R k (fs ++ gs) R'' k'' := by
  induction h with
  | nil => exact h2
  | cons hs _ ih => exact .cons hs (ih h2)
theorem Runs.snoc {R R' R'' : List UInt8} {k k' k'' : Nat} {fs : List Fr} {f : Fr} (h : Runs R k fs R' k') (h2 : stepF R' k' = some (f, R'', k'')) : Runs R k (fs ++ [f]) R'' k'' := h.trans (.cons h2 (.nil _ _))
theorem Runs.append {R R' : List UInt8} {k k' : Nat} {fs : List Fr} (p : List UInt8) (h : Runs R k fs R' k') : Runs (R ++ p) k fs (R' ++ p) k' := by
  induction h with
  | nil => exact .nil _ _
  | cons hs _ ih => exact .cons (stepF_append p hs) ih
theorem Runs.len {R R' : List UInt8} {k k' : Nat} {fs : List Fr} (h : Runs R k fs R' k') : R'.length - k' + 2 * fs.length ≤ R.length - k ∧ R'.length ≤ R.length ∧ ∀ f ∈ fs, f.data.length ≤ R.length := by
  induction h with
  | nil => simp
  | cons hs _ ih =>
    have := stepF_lt hs
    refine ⟨by simp only [List.length_cons]; omega, by omega, fun f hf => ?_⟩
    rcases List.mem_cons.1 hf with rfl | hf
    · omega
    · have := ih.2.2 f hf
      omega
/-- Nothing more is there. -/
def Done (R : List UInt8) (k : Nat) : Prop := endOf R k = none
theorem Runs.det {R R1 R2 : List UInt8} {k k1 k2 : Nat} {fs gs : List Fr} (h : Runs R k fs R1 k1) (d1 : Done R1 k1) (h2 : Runs R k gs R2 k2) (d2 : Done R2 k2) : fs = gs ∧ R1 = R2 ∧ k1 = k2 := by
  induction h generalizing gs with
  | nil =>
    cases h2 with
    | nil => exact ⟨rfl, rfl, rfl⟩
    | cons hs _ => rw [stepF_wait d1] at hs; cases hs
  | cons hs _ ih =>
    cases h2 with
    | nil => rw [stepF_wait d2] at hs; cases hs
    | cons hs2 h2 =>
      rw [hs] at hs2
      simp only [Option.some.injEq, Prod.mk.injEq] at hs2
      obtain ⟨rfl, rfl, rfl⟩ := hs2
      obtain ⟨rfl, rfl, rfl⟩ := ih d1 h2
      exact ⟨rfl, rfl, rfl⟩
theorem Runs.more {R R1 : List UInt8} {k k1 : Nat} {fs gs : List Fr} {R2 : List UInt8} {k2 : Nat} (h : Runs R k fs R1 k1) (h2 : Runs R k gs R2 k2) (d2 : Done R2 k2) : ∃ hs, gs = fs ++ hs ∧ Runs R1 k1 hs R2 k2 := by
  induction h generalizing gs with
  | nil => exact ⟨gs, rfl, h2⟩
  | cons hs _ ih =>
    cases h2 with
    | nil => rw [stepF_wait d2] at hs; cases hs
    | cons hs2 h2 =>
      rw [hs] at hs2
      simp only [Option.some.injEq, Prod.mk.injEq] at hs2
      obtain ⟨rfl, rfl, rfl⟩ := hs2
      obtain ⟨t, rfl, ht⟩ := ih h2
      exact ⟨t, rfl, ht⟩
/-- There is an end to it. -/
theorem runs_end (R : List UInt8) (k : Nat) : ∃ fs R' k', Runs R k fs R' k' ∧ Done R' k' := by
  suffices H : ∀ m R k, R.length - k ≤ m → ∃ fs R' k', Runs R k fs R' k' ∧ Done R' k' from H _ R k (Nat.le_refl _)
  intro m
  induction m with
  | zero =>
    intro R k h
    exact ⟨[], R, k, .nil _ _, endOf_past (by omega)⟩
  | succ m ih =>
    intro R k h
    cases hs : stepF R k with
    | none => exact ⟨[], R, k, .nil _ _, stepF_none.1 hs⟩
    | some t =>
      obtain ⟨f, R', k'⟩ := t
      have := stepF_lt hs
      obtain ⟨fs, R'', k'', h1, h2⟩ := ih R' k' (by omega)
      exact ⟨f :: fs, R'', k'', .cons hs h1, h2⟩
theorem stepF_empty {R R' : List UInt8} {k k' : Nat} {f : Fr} (hs : stepF R k = some (f, R', k')) (h0 : R' = []) : k' = 0 := by
  cases he : endOf R k with
  | none => rw [stepF_wait he] at hs; cases hs
  | some e =>
    have hlt := endOf_lt he
    by_cases hl : 8192 < e - k
    · rw [stepF_long he hl] at hs
      simp only [Option.some.injEq, Prod.mk.injEq] at hs
      exact hs.2.2.symm
    · cases ha : annOf ((R.take e).drop k) with
      | none =>
        rw [stepF_command he hl ha] at hs
        simp only [Option.some.injEq, Prod.mk.injEq] at hs
        exact hs.2.2.symm
      | some n =>
        by_cases hn : 65536 < n
        · rw [stepF_big he hl ha hn] at hs
          simp only [Option.some.injEq, Prod.mk.injEq] at hs
          exact hs.2.2.symm
        · rw [stepF_ready he hl ha hn] at hs
          simp only [Option.some.injEq, Prod.mk.injEq] at hs
          obtain ⟨_, h2, _⟩ := hs
          subst h2
          subst h0
          simp at hlt
/-- Where nothing waits, no line has been begun. -/
theorem Runs.empty {R : List UInt8} {k k' : Nat} {fs : List Fr} (h : Runs R k fs [] k') (hk : R = [] → k = 0) : k' = 0 := by
  generalize hE : ([] : List UInt8) = E at h
  induction h with
  | nil => exact hk hE.symm
  | cons hs _ ih => exact ih (fun h0 => stepF_empty hs h0) hE
/-- Two streams of which nothing waits in the first one. -/
theorem Runs.two {a b R : List UInt8} {k k' : Nat} {fs gs : List Fr} (h : Runs a 0 fs [] k) (h2 : Runs b 0 gs R k') : Runs (a ++ b) 0 (fs ++ gs) R k' := by
  obtain rfl := h.empty (fun _ => rfl)
  exact (h.append b).trans h2
end Go.Proofs.YtldlghfjinpnkaaDoor
