/- The brackets of a list: how the program strikes them. No walk. -/
import Derived.Test.YtchlmmglibladaaDoorFlagLMath
import Derived.Lib.Strings
namespace Go.Proofs.YtchlmmglibladaaDoor
open Go.RowKit

/-- Behind the opening bracket; and before the closing one. -/
def cutA (l : List UInt8) : List UInt8 := Lib.trimPrefix l [40]
def cutB (l : List UInt8) : List UInt8 := Lib.trimSuffix (cutA l) [41]
def hasA (l : List UInt8) : Bool := Lib.hasPrefix l [40]
def hasB (l : List UInt8) : Bool := Lib.hasSuffix (cutA l) [41]

theorem cutA_len (l : List UInt8) : (cutA l).length ≤ l.length := by
  unfold cutA Lib.trimPrefix
  split
  · rw [List.length_drop]; omega
  · exact Nat.le_refl _
theorem cutB_len (l : List UInt8) : (cutB l).length ≤ l.length := by
  have := cutA_len l
  unfold cutB Lib.trimSuffix
  split
  · rw [List.length_take]; omega
  · exact this
theorem cut_all {l : List UInt8} (hA : hasA l = true) (hB : hasB l = true) : l = 40 :: (cutB l ++ [41]) := by
  have h1 : [40] <+: l := by rw [← List.isPrefixOf_iff_prefix]; exact hA
  obtain ⟨r, rfl⟩ := h1
  have e1 : cutA ([40] ++ r) = r := by unfold cutA Lib.trimPrefix; unfold hasA at hA; rw [if_pos hA]; rfl
  unfold hasB at hB
  unfold cutB
  rw [e1] at hB ⊢
  have h2 : [41] <:+ r := by rw [← List.isSuffixOf_iff_suffix]; exact hB
  unfold Lib.trimSuffix
  rw [if_pos hB]
  obtain ⟨t, rfl⟩ := h2
  simp
theorem cut_no {l : List UInt8} (h : hasA l = false ∨ hasB l = false) : parseF l = none := by
  have key : ∀ t, l ≠ 40 :: (t ++ [41]) := by
    rintro t rfl
    have hA : hasA (40 :: (t ++ [41])) = true := by
      unfold hasA Lib.hasPrefix
      rw [List.isPrefixOf_iff_prefix]
      exact ⟨_, rfl⟩
    have e1 : cutA (40 :: (t ++ [41])) = t ++ [41] := by unfold cutA Lib.trimPrefix; unfold hasA at hA; rw [if_pos hA]; rfl
    have hB : hasB (40 :: (t ++ [41])) = true := by
      unfold hasB
      rw [e1]
      unfold Lib.hasSuffix
      rw [List.isSuffixOf_iff_suffix]
      exact ⟨_, rfl⟩
    rcases h with h | h
    · rw [hA] at h; cases h
    · rw [hB] at h; cases h
  unfold parseF
  rw [if_neg (show ¬ l = [40, 41] from key []), if_neg]
  rintro ⟨h2, h0, h1⟩
  cases l with
  | nil => simp at h2
  | cons a r =>
    obtain rfl : a = 40 := by simpa using h0
    have hr : r ≠ [] := by rintro rfl; simp at h2
    have hlast : r.getLast hr = 41 := by
      have e : (40 :: r)[(40 :: r).length - 1]? = r[r.length - 1]? := by
        rw [List.length_cons, Nat.add_sub_cancel]
        obtain ⟨n, hn⟩ : ∃ n, r.length = n + 1 := ⟨r.length - 1, by have := List.length_pos_iff.2 hr; omega⟩
        rw [hn, List.getElem?_cons_succ]
        rfl
      rw [e, ← List.getLast?_eq_getElem?, List.getLast?_eq_some_getLast hr] at h1
      exact Option.some.inj h1
    exact key (r.dropLast) (by rw [← hlast, List.dropLast_concat_getLast])
theorem cut_empty {l : List UInt8} (hA : hasA l = true) (hB : hasB l = true) (h : cutB l = []) : parseF l = some 0 := by
  have := cut_all hA hB
  rw [h] at this
  rw [this]
  rfl
theorem cut_some {l : List UInt8} (hA : hasA l = true) (hB : hasB l = true) (h : cutB l ≠ []) : parseF l = namesO (splitL 32 (cutB l)) := by
  have e := cut_all hA hB
  generalize cutB l = t at *
  subst e
  have hl : (40 :: (t ++ [41])).length = t.length + 2 := by simp
  unfold parseF
  rw [if_neg, if_pos]
  · congr 2
    unfold innerL
    rw [hl]
    simp
  · refine ⟨by rw [hl]; omega, rfl, ?_⟩
    rw [hl, show t.length + 2 - 1 = t.length + 1 by omega, List.getElem?_cons_succ]
    simp
  · intro e
    injection e with _ e
    cases t with
    | nil => exact h rfl
    | cons a r => simp at e
end Go.Proofs.YtchlmmglibladaaDoor
