/- Layer 4 in plain words: what a quoted form's inside is. No walk, no program. -/
import Derived.Test.YtpklpfncohdlhaaDoorQMath
namespace Go.Proofs.YtpklpfncohdlhaaDoor
open Go.RowKit

/-- How many bytes the next character takes (0: there is none). -/
def chN : List UInt8 → Nat
  | [] => 0
  | [c] => if c = 92 then 0 else if textN c.toNat = true then 1 else 0
  | c :: d :: _ => if c = 92 then (if spN d.toNat = true then 2 else 0) else if textN c.toNat = true then 1 else 0
/-- The bytes of a quoted form behind its opening mark, and how many bytes stand for them. -/
def qScan : List UInt8 → Option (List UInt8 × Nat)
  | [] => none
  | [c] => if c = 34 then some ([], 0) else none
  | c :: d :: r => if c = 34 then some ([], 0) else if c = 92 then (if spN d.toNat = true then (qScan r).map (fun p => (d :: p.1, p.2 + 2)) else none) else if textN c.toNat = true then (qScan (d :: r)).map (fun p => (c :: p.1, p.2 + 1)) else none

theorem q_mark (r : List UInt8) (h : r[0]? = some 34) : qScan r = some ([], 0) := by
  match r, h with
  | [c], h => simp at h; subst h; rfl
  | c :: d :: r, h => simp at h; subst h; rw [qScan]; rfl
theorem q_none (r : List UInt8) (h : r[0]? ≠ some 34) (hn : chN r = 0) : qScan r = none := by
  match r, h, hn with
  | [], _, _ => rfl
  | [c], h, _ => rw [qScan, if_neg (by simpa using h)]
  | c :: d :: r, h, hn =>
    rw [qScan, if_neg (by simpa using h)]
    rw [chN] at hn
    by_cases h92 : c = 92
    · rw [if_pos h92] at hn ⊢
      by_cases hs : spN d.toNat = true
      · rw [if_pos hs] at hn; cases hn
      · rw [if_neg hs]
    · rw [if_neg h92] at hn ⊢
      by_cases ht : textN c.toNat = true
      · rw [if_pos ht] at hn; cases hn
      · rw [if_neg ht]
/-- The byte that the next character stands for. -/
def chV (r : List UInt8) : UInt8 := if r[0]? = some 92 then r.getD 1 0 else r.getD 0 0
theorem q_char (r : List UInt8) (n : Nat) (h : r[0]? ≠ some 34) (hn : chN r = n) (h0 : 0 < n) : qScan r = (qScan (r.drop n)).map (fun p => (chV r :: p.1, p.2 + n)) := by
  match r, h, hn with
  | [], _, hn => subst hn; simp [chN] at h0
  | [c], h, hn =>
    rw [qScan, if_neg (by simpa using h)]
    rw [chN] at hn
    by_cases h92 : c = 92
    · rw [if_pos h92] at hn; omega
    · rw [if_neg h92] at hn
      by_cases ht : textN c.toNat = true
      · rw [if_pos ht] at hn; subst hn; rfl
      · rw [if_neg ht] at hn; omega
  | c :: d :: r, h, hn =>
    rw [qScan, if_neg (by simpa using h)]
    rw [chN] at hn
    by_cases h92 : c = 92
    · rw [if_pos h92] at hn ⊢
      by_cases hs : spN d.toNat = true
      · rw [if_pos hs] at hn ⊢
        subst hn
        subst h92
        rfl
      · rw [if_neg hs] at hn; omega
    · rw [if_neg h92] at hn ⊢
      by_cases ht : textN c.toNat = true
      · rw [if_pos ht] at hn ⊢
        subst hn
        have e : chV (c :: d :: r) = c := by unfold chV; rw [if_neg (by simpa using h92)]; rfl
        rw [e]
        rfl
      · rw [if_neg ht] at hn; omega
theorem chN_le (r : List UInt8) : chN r ≤ r.length := by
  match r with
  | [] => simp [chN]
  | [c] => rw [chN]; split <;> (try split) <;> simp
  | c :: d :: r => rw [chN]; split <;> (try split) <;> simp
theorem chN_two (r : List UInt8) : chN r ≤ 2 := by
  match r with
  | [] => simp [chN]
  | [c] => rw [chN]; split <;> (try split) <;> simp
  | c :: d :: r => rw [chN]; split <;> (try split) <;> simp

/-- Bytes with their backslashes struck; whether each backslash has a byte behind it. -/
def plainD : List UInt8 → List UInt8
  | [] => []
  | [c] => [c]
  | c :: d :: r => if c = 92 then d :: plainD r else c :: plainD (d :: r)
def wfB : List UInt8 → Bool
  | [] => true
  | [c] => decide (c ≠ 92)
  | c :: d :: r => if c = 92 then wfB r else wfB (d :: r)

theorem q_plain (r : List UInt8) (P : List UInt8) (n : Nat) (h : qScan r = some (P, n)) : n < r.length ∧ plainD (r.take n) = P ∧ wfB (r.take n) = true ∧ r[n]? = some 34 := by
  induction r using qScan.induct generalizing P n with
  | case1 => cases h
  | case2 =>
    simp [qScan] at h
    obtain ⟨rfl, rfl⟩ := h
    simp [plainD, wfB]
  | case3 c h34 =>
    rw [qScan, if_neg h34] at h
    cases h
  | case4 d r =>
    rw [qScan, if_pos rfl] at h
    simp at h
    obtain ⟨rfl, rfl⟩ := h
    simp [plainD, wfB]
  | case5 d r hs h34 ih =>
    rw [qScan, if_neg h34, if_pos rfl, if_pos hs] at h
    obtain ⟨p, hp, he⟩ := Option.map_eq_some_iff.1 h
    injection he with e1 e2
    subst e1; subst e2
    obtain ⟨a1, a2, a3, a4⟩ := ih p.1 p.2 hp
    refine ⟨by simp; omega, ?_, ?_, by simpa using a4⟩
    · simp [plainD, a2]
    · simp [wfB, a3]
  | case6 d r hs h34 =>
    rw [qScan, if_neg h34, if_pos rfl, if_neg hs] at h
    cases h
  | case7 c d r h34 h92 ht ih =>
    rw [qScan, if_neg h34, if_neg h92, if_pos ht] at h
    obtain ⟨p, hp, he⟩ := Option.map_eq_some_iff.1 h
    injection he with e1 e2
    subst e1; subst e2
    obtain ⟨a1, a2, a3, a4⟩ := ih p.1 p.2 hp
    refine ⟨by simp at a1 ⊢; omega, ?_, ?_, by simpa using a4⟩
    · rw [List.take_succ_cons]
      cases hp2 : p.2 with
      | zero =>
        rw [hp2] at a2
        simp [plainD] at a2 ⊢
        exact a2
      | succ m =>
        rw [hp2] at a2
        rw [List.take_succ_cons] at a2 ⊢
        rw [plainD, if_neg h92, a2]
    · rw [List.take_succ_cons]
      cases hp2 : p.2 with
      | zero => simp [wfB, h92]
      | succ m =>
        rw [hp2] at a3
        rw [List.take_succ_cons] at a3 ⊢
        rw [wfB, if_neg h92, a3]
  | case8 c d r h34 h92 ht =>
    rw [qScan, if_neg h34, if_neg h92, if_neg ht] at h
    cases h

theorem plain_none (b : List UInt8) (h : (92 : UInt8) ∉ b) : plainD b = b := by
  induction b using plainD.induct with
  | case1 => rfl
  | case2 c => rfl
  | case3 d r ih => simp at h
  | case4 c d r h92 ih => rw [plainD, if_neg h92, ih (fun hm => h (by simp at hm ⊢; right; exact hm))]
theorem plain_at (b u v : List UInt8) (hb : b = u ++ 92 :: v) (hu : (92 : UInt8) ∉ u) (hw : wfB b = true) : ∃ d v', v = d :: v' ∧ wfB v' = true ∧ plainD b = u ++ d :: plainD v' := by
  induction u generalizing b with
  | nil =>
    subst hb
    cases v with
    | nil => simp [wfB] at hw
    | cons d v' => exact ⟨d, v', rfl, by simpa [wfB] using hw, by simp [plainD]⟩
  | cons c u ih =>
    have hc : c ≠ 92 := fun e => hu (by simp [e])
    have hu' : (92 : UInt8) ∉ u := fun e => hu (by simp [e])
    have key : wfB (u ++ 92 :: v) = true ∧ plainD b = c :: plainD (u ++ 92 :: v) := by
      subst hb
      cases u with
      | nil => simp [wfB, hc] at hw; simp [plainD, hc, hw]
      | cons x u => simp [wfB, hc] at hw; simp [plainD, hc, hw]
    obtain ⟨d, v', h1, h2, h3⟩ := ih _ rfl hu' key.1
    exact ⟨d, v', h1, h2, by rw [key.2, h3]; rfl⟩

/-- What a walk over a form's inside keeps, from place f to place p: P are the bytes so far. -/
def QAt (l : List UInt8) (f p : Nat) (P : List UInt8) : Prop := f ≤ p ∧ qScan (l.drop f) = (qScan (l.drop p)).map (fun t => (P ++ t.1, t.2 + (p - f)))
theorem QAt.start (l : List UInt8) (f : Nat) : QAt l f f [] := by
  refine ⟨Nat.le_refl _, ?_⟩
  rw [Nat.sub_self]
  cases qScan (l.drop f) <;> rfl
theorem drop_at (l : List UInt8) (p : Nat) : (l.drop p)[0]? = l[p]? := by rw [List.getElem?_drop, Nat.add_zero]
theorem QAt.go {l : List UInt8} {f p n : Nat} {P : List UInt8} (h : QAt l f p P) (h34 : l[p]? ≠ some 34) (hn : chN (l.drop p) = n) (h0 : 0 < n) : QAt l f (p + n) (P ++ [chV (l.drop p)]) := by
  obtain ⟨h1, h2⟩ := h
  refine ⟨by omega, ?_⟩
  rw [h2, q_char _ n (by rw [drop_at]; exact h34) hn h0, List.drop_drop]
  cases qScan (l.drop (p + n)) with
  | none => rfl
  | some t =>
    simp only [Option.map_some, Option.some.injEq, Prod.mk.injEq]
    exact ⟨by simp, by omega⟩
theorem QAt.mark {l : List UInt8} {f p : Nat} {P : List UInt8} (h : QAt l f p P) (h34 : l[p]? = some 34) : qScan (l.drop f) = some (P, p - f) := by
  rw [h.2, q_mark _ (by rw [drop_at]; exact h34)]
  simp
theorem QAt.stop {l : List UInt8} {f p : Nat} {P : List UInt8} (h : QAt l f p P) (h34 : l[p]? ≠ some 34) (hn : chN (l.drop p) = 0) : qScan (l.drop f) = none := by
  rw [h.2, q_none _ (by rw [drop_at]; exact h34) hn]
  rfl
end Go.Proofs.YtpklpfncohdlhaaDoor
