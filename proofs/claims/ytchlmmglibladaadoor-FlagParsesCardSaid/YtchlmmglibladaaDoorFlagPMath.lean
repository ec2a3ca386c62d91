/- What a list of names denotes, in plain words. No walk. -/
import Derived.Test.YtchlmmglibladaaDoorFlagMath
import Derived.Test.YtchlmmglibladaaDoorSplitMath
namespace Go.Proofs.YtchlmmglibladaaDoor
open Go.RowKit

/-- The flags of some names together. -/
def orF (ps : List (List UInt8)) : Nat := ps.foldl (fun a p => a ||| flagL p) 0
def allF (ps : List (List UInt8)) : Bool := ps.all fun p => flagL p != 0
def namesO (ps : List (List UInt8)) : Option Nat := if allF ps = true then some (orF ps) else none
/-- What stands between the brackets. -/
def innerL (l : List UInt8) : List UInt8 := (l.take (l.length - 1)).drop 1
/-- The flags of a list. -/
def parseF (l : List UInt8) : Option Nat :=
  if l = [40, 41] then some 0 else if 2 ≤ l.length ∧ l[0]? = some 40 ∧ l[l.length - 1]? = some 41 then namesO (splitL 32 (innerL l)) else none

theorem flagL_lt (p : List UInt8) : flagL p < 32 := by
  rcases flagU_is (upL p) with h | ⟨h, _⟩
  · unfold flagL; omega
  · unfold flagL; rcases ones_mem.1 h with e | e | e | e | e <;> omega
theorem orF_snoc (ps : List (List UInt8)) (p : List UInt8) : orF (ps ++ [p]) = orF ps ||| flagL p := by simp [orF]
theorem foldF_lt (ps : List (List UInt8)) : ∀ a, a < 32 → ps.foldl (fun a p => a ||| flagL p) a < 32 := by
  induction ps with
  | nil => intro a h; exact h
  | cons p ps ih => intro a h; exact ih _ (Nat.or_lt_two_pow (n := 5) h (flagL_lt p))
theorem orF_lt (ps : List (List UInt8)) : orF ps < 32 := foldF_lt ps 0 (by decide)
theorem allF_snoc (ps : List (List UInt8)) (p : List UInt8) : allF (ps ++ [p]) = (allF ps && (flagL p != 0)) := by simp [allF]

/-- Where the reference stands: the names pre are read, the next begins at f, byte k is looked at. -/
def RefAt (l : List UInt8) (pre : List (List UInt8)) (f k : Nat) : Prop :=
  allF pre = true ∧ ((k < l.length ∧ (∀ j, f ≤ j → j < k → l[j]? ≠ some 32) ∧ pre ++ splitL 32 ((l.take (l.length - 1)).drop f) = splitL 32 (innerL l)) ∨ (k = l.length ∧ pre = splitL 32 (innerL l)))

theorem refAt_start {l : List UInt8} (h : 2 ≤ l.length) : RefAt l [] 1 1 :=
  ⟨rfl, .inl ⟨by omega, fun j h1 h2 => by omega, rfl⟩⟩
theorem refAt_skip {l : List UInt8} {pre : List (List UInt8)} {f k : Nat} (h : RefAt l pre f k) (hk : k + 1 < l.length) (hc : l[k]? ≠ some 32) : RefAt l pre f (k + 1) := by
  obtain ⟨ha, h | h⟩ := h
  · refine ⟨ha, .inl ⟨hk, fun j h1 h2 => ?_, h.2.2⟩⟩
    by_cases e : j = k
    · subst e; exact hc
    · exact h.2.1 j h1 (by omega)
  · omega
/-- The name that ends at k. -/
def segL (l : List UInt8) (f k : Nat) : List UInt8 := (l.drop f).take (k - f)
theorem seg_no {l : List UInt8} {f k : Nat} (h : ∀ j, f ≤ j → j < k → l[j]? ≠ some 32) : (32 : UInt8) ∉ segL l f k := by
  intro hm
  obtain ⟨i, hi⟩ := List.getElem?_of_mem hm
  unfold segL at hi
  have hlt := (List.getElem?_eq_some_iff.1 hi).1
  rw [List.length_take] at hlt
  rw [List.getElem?_take_of_lt (by omega), List.getElem?_drop] at hi
  exact h (f + i) (by omega) (by omega) hi
theorem seg_split {l : List UInt8} {f k : Nat} (hf : f ≤ k) (hk : k + 1 < l.length) (hc : l[k]? = some 32) :
    (l.take (l.length - 1)).drop f = segL l f k ++ 32 :: (l.take (l.length - 1)).drop (k + 1) := by
  have hlen : k < (l.take (l.length - 1)).length := by rw [List.length_take]; omega
  have h1 : ((l.take (l.length - 1)).drop f).take (k - f) = segL l f k := by
    unfold segL
    rw [List.drop_take, List.take_take]
    congr 1
    omega
  have h2 : ((l.take (l.length - 1)).drop f).drop (k - f) = (l.take (l.length - 1)).drop k := by
    rw [List.drop_drop]
    congr 1
    omega
  have h3 : (l.take (l.length - 1))[k] = 32 := by
    have : (l.take (l.length - 1))[k]? = some 32 := by rw [List.getElem?_take_of_lt (by omega)]; exact hc
    rw [List.getElem?_eq_getElem hlen] at this
    exact Option.some.inj this
  rw [← List.take_append_drop (k - f) ((l.take (l.length - 1)).drop f), h1, h2, List.drop_eq_getElem_cons hlen, h3]
theorem refAt_next {l : List UInt8} {pre : List (List UInt8)} {f k : Nat} (h : RefAt l pre f k) (hf : f ≤ k) (hk : k < l.length) (hc : k + 1 < l.length → l[k]? = some 32) (h0 : flagL (segL l f k) ≠ 0) :
    RefAt l (pre ++ [segL l f k]) (k + 1) (k + 1) := by
  obtain ⟨ha, h | h⟩ := h
  · refine ⟨by rw [allF_snoc, ha]; simpa using h0, ?_⟩
    by_cases hl : k + 1 < l.length
    · refine .inl ⟨hl, fun j h1 h2 => by omega, ?_⟩
      rw [List.append_assoc, ← h.2.2, seg_split hf hl (hc hl), splitL_at (seg_no h.2.1)]
      rfl
    · have hk1 : k = l.length - 1 := by omega
      refine .inr ⟨by omega, ?_⟩
      have hs : (l.take (l.length - 1)).drop f = segL l f k := by
        unfold segL
        rw [List.drop_take, hk1]
      rw [← h.2.2, hs, splitL_none (seg_no h.2.1)]
  · omega
theorem refAt_bad {l : List UInt8} {pre : List (List UInt8)} {f k : Nat} (h : RefAt l pre f k) (hf : f ≤ k) (hk : k < l.length) (hc : k + 1 < l.length → l[k]? = some 32) (h0 : flagL (segL l f k) = 0) :
    namesO (splitL 32 (innerL l)) = none := by
  have key : ∃ rest, splitL 32 (innerL l) = pre ++ segL l f k :: rest := by
    obtain ⟨ha, h | h⟩ := h
    · by_cases hl : k + 1 < l.length
      · exact ⟨_, by rw [← h.2.2, seg_split hf hl (hc hl), splitL_at (seg_no h.2.1)]⟩
      · have hs : (l.take (l.length - 1)).drop f = segL l f k := by
          unfold segL
          rw [List.drop_take, show k = l.length - 1 by omega]
        exact ⟨[], by rw [← h.2.2, hs, splitL_none (seg_no h.2.1)]⟩
    · omega
  obtain ⟨rest, e⟩ := key
  unfold namesO
  rw [if_neg]
  rw [e]
  simp [allF, h0]
theorem refAt_end {l : List UInt8} {pre : List (List UInt8)} {f k : Nat} (h : RefAt l pre f k) (hk : l.length ≤ k) : namesO (splitL 32 (innerL l)) = some (orF pre) := by
  obtain ⟨ha, h | h⟩ := h
  · omega
  · unfold namesO
    rw [← h.2, if_pos ha]
end Go.Proofs.YtchlmmglibladaaDoor
