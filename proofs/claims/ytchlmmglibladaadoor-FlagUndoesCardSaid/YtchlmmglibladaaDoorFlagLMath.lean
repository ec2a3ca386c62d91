/- Lists of names in plain words: what is printed is what is read again. No walk. -/
import Derived.Test.YtchlmmglibladaaDoorFlagPMath
import Derived.Lib.Join
namespace Go.Proofs.YtchlmmglibladaaDoor
open Go.RowKit

/-- Names with a space between each two. -/
def spL (ps : List (List UInt8)) : List UInt8 := Lib.join ps [32]
/-- The list of some flags. -/
def listL (f : Nat) : List UInt8 := 40 :: (spL ((eachL f).map nameF) ++ [41])

theorem spL_nil : spL [] = [] := rfl
theorem spL_one (p : List UInt8) : spL [p] = p := Lib.join_one p _
theorem spL_snoc {ps : List (List UInt8)} (h : ps ≠ []) (p : List UInt8) : spL (ps ++ [p]) = spL ps ++ 32 :: p := by
  cases ps with
  | nil => exact absurd rfl h
  | cons x r =>
    unfold spL
    rw [List.cons_append, Lib.join_cons, Lib.join_cons]
    simp [Lib.joinTail]
theorem spL_cons (p q : List UInt8) (ps : List (List UInt8)) : spL (p :: q :: ps) = p ++ 32 :: spL (q :: ps) := by
  unfold spL
  rw [Lib.join_cons, Lib.join_cons]
  simp [Lib.joinTail]
theorem split_spL : ∀ (ps : List (List UInt8)), ps ≠ [] → (∀ p ∈ ps, (32 : UInt8) ∉ p) → splitL 32 (spL ps) = ps
  | [], h, _ => absurd rfl h
  | [p], _, h => by rw [spL_one]; exact splitL_none (h p (by simp))
  | p :: q :: ps, _, h => by
    rw [spL_cons, splitL_at (h p (by simp)), split_spL (q :: ps) (by simp) (fun x hx => h x (by simp [hx]))]

/-- What stands between brackets is read part by part. -/
theorem parse_list {ps : List (List UInt8)} (h : ps ≠ []) (hs : ∀ p ∈ ps, (32 : UInt8) ∉ p) (h0 : ∃ p ∈ ps, p ≠ []) : parseF (40 :: (spL ps ++ [41])) = namesO ps := by
  have hl : (40 :: (spL ps ++ [41])).length = (spL ps).length + 2 := by simp
  have hne : spL ps ≠ [] := by
    intro e
    have := split_spL ps h hs
    rw [e] at this
    obtain ⟨p, hp, hp0⟩ := h0
    rw [← this] at hp
    simp [splitL] at hp
    exact hp0 hp
  have hi : innerL (40 :: (spL ps ++ [41])) = spL ps := by
    unfold innerL
    rw [hl]
    simp
  unfold parseF
  rw [if_neg, if_pos, hi, split_spL ps h hs]
  · refine ⟨by rw [hl]; omega, rfl, ?_⟩
    rw [hl, show (spL ps).length + 2 - 1 = (spL ps).length + 1 by omega, List.getElem?_cons_succ]
    simp
  · intro e
    injection e with _ e
    cases hx : spL ps with
    | nil => exact hne hx
    | cons a r =>
      rw [hx] at e
      simp at e

theorem name_nosp {f : Nat} (hf : f ∈ ones) : (32 : UInt8) ∉ nameF f := by
  rcases ones_mem.1 hf with rfl | rfl | rfl | rfl | rfl <;> decide
theorem name_ne {f : Nat} (hf : f ∈ ones) : nameF f ≠ [] := by
  rcases ones_mem.1 hf with rfl | rfl | rfl | rfl | rfl <;> decide
theorem name_len (f : Nat) : (nameF f).length ≤ 9 := by
  unfold nameF
  repeat (split; decide)
  decide
theorem flagL_name {f : Nat} (hf : f ∈ ones) : flagL (nameF f) = f := flagU_name hf
theorem eachL_ones {f x : Nat} (h : x ∈ eachL f) : x ∈ ones := (List.mem_filter.1 h).1
/-- The flags of names are the flags. -/
theorem names_flags (xs : List Nat) (h : ∀ x ∈ xs, x ∈ ones) : namesO (xs.map nameF) = some (xs.foldl (fun a x => a ||| x) 0) := by
  have ha : allF (xs.map nameF) = true := by
    unfold allF
    rw [List.all_map, List.all_eq_true]
    intro x hx
    have := h x hx
    show (flagL (nameF x) != 0) = true
    rw [flagL_name this]
    have : x ≠ 0 := by rintro rfl; simp [ones] at this
    simpa using this
  have ho : ∀ (ys : List Nat) (a : Nat), (∀ x ∈ ys, x ∈ ones) → (ys.map nameF).foldl (fun a p => a ||| flagL p) a = ys.foldl (fun a x => a ||| x) a := by
    intro ys
    induction ys with
    | nil => intro a _; rfl
    | cons y ys ih =>
      intro a hy
      show List.foldl _ (a ||| flagL (nameF y)) (ys.map nameF) = List.foldl _ (a ||| y) ys
      rw [flagL_name (hy y (by simp))]
      exact ih _ (fun x hx => hy x (by simp [hx]))
  unfold namesO
  rw [if_pos ha]
  unfold orF
  rw [ho xs 0 h]
theorem each_or : ∀ f : Fin 256, (eachL f.val).foldl (fun a x => a ||| x) 0 = f.val &&& 31 := by decide +kernel
theorem each_nil : ∀ f : Fin 256, eachL f.val = [] ↔ f.val &&& 31 = 0 := by decide +kernel
/-- What is printed is read again. -/
theorem parse_printed (f : Nat) (hf : f < 256) : parseF (listL f) = some (f &&& 31) := by
  by_cases h : eachL f = []
  · have h0 := (each_nil ⟨f, hf⟩).1 h
    unfold listL
    rw [h]
    rw [show f &&& 31 = 0 from h0]
    decide
  · unfold listL
    rw [parse_list (by simpa using h) (fun p hp => by
      obtain ⟨x, hx, rfl⟩ := List.mem_map.1 hp
      exact name_nosp (eachL_ones hx)), names_flags _ (fun x hx => eachL_ones hx)]
    · rw [show (eachL f).foldl (fun a x => a ||| x) 0 = f &&& 31 from each_or ⟨f, hf⟩]
    · obtain ⟨x, hx⟩ := List.exists_mem_of_ne_nil _ h
      exact ⟨nameF x, List.mem_map.2 ⟨x, hx, rfl⟩, name_ne (eachL_ones hx)⟩
end Go.Proofs.YtchlmmglibladaaDoor
