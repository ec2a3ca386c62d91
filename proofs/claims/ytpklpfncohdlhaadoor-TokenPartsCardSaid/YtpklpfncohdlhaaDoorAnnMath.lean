/- Layer 4 in plain words: a line that announces a literal. No walk. -/
import Derived.Test.YtpklpfncohdlhaaDoorAnn
namespace Go.Proofs.YtpklpfncohdlhaaDoor
open Go.RowKit
open Go.Lib hiding intOf

/-- The line ends with the head of a literal form of n bytes. -/
def AnnL (l : List UInt8) (n : Nat) : Prop := n ≤ 4294967295 ∧ ∃ pre, l = pre ++ 123 :: (decDigits n ++ [125])
/-- o is what the line announces. -/
def IsAnn (l : List UInt8) : Option Nat → Prop
  | some n => AnnL l n
  | none => ∀ n, ¬ AnnL l n

theorem dec_dig (n : Nat) : ∀ c ∈ decDigits n, isDig c = true := fun c hc => List.all_eq_true.1 (dec_facts n).1 c hc
theorem takeWhile_front (a : List UInt8) (x : UInt8) (b : List UInt8) (ha : ∀ c ∈ a, isDig c = true) (hx : isDig x = false) : (a ++ x :: b).takeWhile isDig = a := by
  induction a with
  | nil => simp [hx]
  | cons c a ih => rw [List.cons_append, List.takeWhile_cons, if_pos (ha c (by simp)), ih (fun d hd => ha d (by simp [hd]))]
theorem annL_inj {l : List UInt8} {n m : Nat} (h1 : AnnL l n) (h2 : AnnL l m) : n = m := by
  obtain ⟨hn, p1, e1⟩ := h1
  obtain ⟨hm, p2, e2⟩ := h2
  have e : (p1 ++ 123 :: (decDigits n ++ [125])).reverse = (p2 ++ 123 :: (decDigits m ++ [125])).reverse := by rw [← e1, ← e2]
  simp only [List.reverse_append, List.reverse_cons, List.reverse_nil, List.nil_append, List.append_assoc, List.cons_append] at e
  injection e with _ e
  have t := congrArg (List.takeWhile isDig) e
  rw [takeWhile_front _ _ _ (fun c hc => dec_dig n c (List.mem_reverse.1 hc)) (by decide), takeWhile_front _ _ _ (fun c hc => dec_dig m c (List.mem_reverse.1 hc)) (by decide)] at t
  have t2 := congrArg List.reverse t
  rw [List.reverse_reverse, List.reverse_reverse] at t2
  have a := numOf_dec hn
  rw [t2, numOf_dec hm] at a
  exact (Option.some.inj a).symm
theorem isAnn_eq {l : List UInt8} {a b : Option Nat} (h1 : IsAnn l a) (h2 : IsAnn l b) : a = b := by
  cases a with
  | none =>
    cases b with
    | none => rfl
    | some m => exact absurd h2 (h1 m)
  | some n =>
    cases b with
    | none => exact absurd h1 (h2 n)
    | some m => rw [annL_inj h1 h2]
theorem isAnn_le {l : List UInt8} {n : Nat} (h : IsAnn l (some n)) : n ≤ 4294967295 := h.1

/-- The last place of an opening bracket. -/
def LastP (l : List UInt8) (x : Int) : Prop := (x = -1 ∧ ∀ j : Nat, l[j]? ≠ some 123) ∨ ∃ k : Nat, x = k ∧ l[k]? = some 123 ∧ ∀ j : Nat, k < j → l[j]? ≠ some 123

/-- The form at the last opening bracket. -/
theorem ann_at {l : List UInt8} {n : Nat} (h : AnnL l n) {x : Int} (hx : LastP l x) : ∃ k : Nat, x = k ∧ annO (l.drop k) = some (n, (decDigits n).length + 2) ∧ k + ((decDigits n).length + 2) = l.length := by
  obtain ⟨hn, pre, rfl⟩ := h
  have h123 : (pre ++ 123 :: (decDigits n ++ [125]))[pre.length]? = some 123 := by simp
  have hno : ∀ j, pre.length < j → (pre ++ 123 :: (decDigits n ++ [125]))[j]? ≠ some 123 := fun j hj => by
    rw [List.getElem?_append_right (by omega)]
    obtain ⟨i, hi⟩ : ∃ i, j - pre.length = i + 1 := ⟨j - pre.length - 1, by omega⟩
    rw [hi, List.getElem?_cons_succ]
    intro e
    have hm : (123 : UInt8) ∈ decDigits n ++ [125] := List.mem_of_getElem? e
    rw [List.mem_append] at hm
    rcases hm with hm | hm
    · have := dec_dig n _ hm
      revert this; decide
    · simp at hm
  have hk : x = pre.length := by
    rcases hx with ⟨_, h0⟩ | ⟨k, rfl, h1, h2⟩
    · exact absurd h123 (h0 _)
    · rcases Nat.lt_trichotomy k pre.length with hlt | heq | hgt
      · exact absurd h123 (h2 _ hlt)
      · rw [heq]
      · exact absurd h1 (hno _ hgt)
  refine ⟨pre.length, hk, ?_, by simp⟩
  rw [List.drop_left]
  unfold annO
  rw [if_pos (by simp)]
  have e1 : (123 :: (decDigits n ++ [125]) : List UInt8).drop 1 = decDigits n ++ 125 :: [] := rfl
  have e2 : dgL (decDigits n ++ 125 :: []) = decDigits n := takeWhile_front _ _ _ (dec_dig n) (by decide)
  rw [e1, e2, numOf_dec hn]
  simp
theorem ann_of {l : List UInt8} {k n j : Nat} (h : annO (l.drop k) = some (n, j)) (hj : k + j = l.length) : AnnL l n := by
  unfold annO at h
  split at h
  · rename_i h0
    split at h
    · rename_i m hm
      split at h
      · rename_i h125
        simp only [Option.some.injEq, Prod.mk.injEq] at h
        obtain ⟨rfl, rfl⟩ := h
        obtain ⟨hle, hd⟩ := numOf_some hm
        refine ⟨hle, l.take k, ?_⟩
        rw [hd]
        have hk : k < l.length := by omega
        have e0 : l.drop k = 123 :: l.drop (k + 1) := by
          rw [drop_at] at h0
          obtain ⟨_, he⟩ := List.getElem?_eq_some_iff.1 h0
          rw [List.drop_eq_getElem_cons hk, he]
        have e1 : (l.drop k).drop 1 = l.drop (k + 1) := by rw [List.drop_drop]
        rw [e1] at hm h125 hj hd ⊢
        have hpre : dgL (l.drop (k + 1)) <+: l.drop (k + 1) := List.takeWhile_prefix _
        obtain ⟨t, ht⟩ := hpre
        generalize dgL (l.drop (k + 1)) = D at *
        have htl : t.length = 1 := by
          have := congrArg List.length ht
          rw [List.length_append, List.length_drop] at this
          omega
        obtain ⟨y, rfl⟩ : ∃ y, t = [y] := by
          match t, htl with
          | [y], _ => exact ⟨y, rfl⟩
        have hy : y = 125 := by
          rw [← ht] at h125
          simpa using h125
        subst hy
        rw [ht]
        conv => lhs; rw [← List.take_append_drop k l, e0]
      · cases h
    · cases h
  · cases h
end Go.Proofs.YtpklpfncohdlhaaDoor
