/- The order of names in a list, in plain words. No walk. -/
import Derived.Test.YtchlmmglibladaaDoorFlagLMath
namespace Go.Proofs.YtchlmmglibladaaDoor
open Go.RowKit

/-- The first i elements from the k-th on, around. -/
def rotL (l : List Nat) (k i : Nat) : List Nat := (List.range i).map fun j => l.getD ((j + k) % l.length) 0
/-- Each twice. -/
def dup (xs : List Nat) : List Nat := xs.flatMap fun x => [x, x]
/-- What is written behind i rounds. -/
def ordL (l : List Nat) (k i : Nat) : List UInt8 := spL ((dup (rotL l k i)).map nameF)

theorem rot_succ (l : List Nat) (k i : Nat) : rotL l k (i + 1) = rotL l k i ++ [l.getD ((i + k) % l.length) 0] := by
  unfold rotL; rw [List.range_succ, List.map_append]; rfl
theorem dup_snoc (xs : List Nat) (x : Nat) : dup (xs ++ [x]) = dup xs ++ [x] ++ [x] := by unfold dup; simp
theorem spL_snoc2 {ps : List (List UInt8)} (h : ps ≠ []) (p : List UInt8) : spL (ps ++ [p] ++ [p]) = spL ps ++ 32 :: (p ++ 32 :: p) := by
  rw [spL_snoc (by simp), spL_snoc h]; simp
theorem ord_zero (l : List Nat) (k : Nat) : ordL l k 0 = [] := rfl
theorem ord_one (l : List Nat) (k : Nat) : ordL l k 1 = nameF (l.getD ((0 + k) % l.length) 0) ++ 32 :: nameF (l.getD ((0 + k) % l.length) 0) := by
  unfold ordL
  rw [rot_succ]
  show spL ((dup ([] ++ [_])).map nameF) = _
  rw [dup_snoc]
  show spL [_, _] = _
  rw [spL_cons, spL_one]
theorem ord_succ (l : List Nat) (k i : Nat) (hi : 0 < i) : ordL l k (i + 1) = ordL l k i ++ 32 :: (nameF (l.getD ((i + k) % l.length) 0) ++ 32 :: nameF (l.getD ((i + k) % l.length) 0)) := by
  unfold ordL
  rw [rot_succ, dup_snoc, List.map_append, List.map_append]
  refine spL_snoc2 ?_ _
  intro e
  have hl : ((dup (rotL l k i)).map nameF).length = 0 := by rw [e]; rfl
  rw [List.length_map] at hl
  cases i with
  | zero => omega
  | succ i =>
    rw [rot_succ, dup_snoc, List.length_append, List.length_append] at hl
    simp at hl
theorem rot_mod (l : List Nat) (k i : Nat) : rotL l (k % l.length) i = rotL l k i := by
  unfold rotL
  refine List.map_congr_left fun j _ => ?_
  rw [Nat.add_mod_mod]
def orDup (l : List Nat) (r : Nat) : Nat := (dup (rotL l r l.length)).foldl (fun a x => a ||| x) 0
theorem each_dup : ∀ (f : Fin 256) (r : Fin 5), orDup (eachL f.val) r.val = f.val &&& 31 := by decide +kernel
theorem each_len (f : Nat) : (eachL f).length ≤ 5 := Nat.le_trans (List.length_filter_le _ _) (by simp [ones])

theorem parse_ord (f k : Nat) (hf : f < 256) : parseF (40 :: (ordL (eachL f) k (eachL f).length ++ [41])) = some (f &&& 31) := by
  have hl := each_len f
  have hor : (dup (rotL (eachL f) k (eachL f).length)).foldl (fun a x => a ||| x) 0 = f &&& 31 := by
    by_cases h0 : (eachL f).length = 0
    · have := each_dup ⟨f, hf⟩ 0
      unfold orDup at this
      rw [h0] at this ⊢
      exact this
    · have := each_dup ⟨f, hf⟩ ⟨k % (eachL f).length, by have := Nat.mod_lt k (Nat.pos_of_ne_zero h0); omega⟩
      unfold orDup at this
      rw [rot_mod] at this
      exact this
  by_cases h0 : eachL f = []
  · rw [h0] at hor ⊢
    rw [← hor]
    rfl
  · have hpos : 0 < (eachL f).length := List.length_pos_iff.2 h0
    have hmem : ∀ x ∈ dup (rotL (eachL f) k (eachL f).length), x ∈ ones := by
      intro x hx
      unfold dup rotL at hx
      rw [List.mem_flatMap] at hx
      obtain ⟨y, hy, hxy⟩ := hx
      obtain ⟨j, _, rfl⟩ := List.mem_map.1 hy
      have hlt := Nat.mod_lt (j + k) hpos
      have : x = (eachL f).getD ((j + k) % (eachL f).length) 0 := by simpa using hxy
      rw [this, List.getD_eq_getElem?_getD, List.getElem?_eq_getElem hlt]
      exact eachL_ones (List.getElem_mem hlt)
    have hne : dup (rotL (eachL f) k (eachL f).length) ≠ [] := by
      obtain ⟨n, hn⟩ : ∃ n, (eachL f).length = n + 1 := ⟨(eachL f).length - 1, by omega⟩
      rw [hn, rot_succ, dup_snoc]
      simp
    unfold ordL
    rw [parse_list (by simpa using hne) (fun p hp => by
      obtain ⟨x, hx, rfl⟩ := List.mem_map.1 hp
      exact name_nosp (hmem x hx)), names_flags _ hmem, hor]
    obtain ⟨x, hx⟩ := List.exists_mem_of_ne_nil _ hne
    exact ⟨nameF x, List.mem_map.2 ⟨x, hx, rfl⟩, name_ne (hmem x hx)⟩
end Go.Proofs.YtchlmmglibladaaDoor
