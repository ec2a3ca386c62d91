/- The fields of a short form are short. No walk. -/
import Derived.Test.YtpoejnajnaolpaaGreatDoorRpInj
namespace Go.Proofs.YtpoejnajnaolpaaGreatDoor
open Go.RowKit

theorem spL_mem_len {p : List UInt8} : ∀ {ps : List (List UInt8)}, p ∈ ps → p.length ≤ (spL ps).length
  | [], h => by cases h
  | [q], h => by
    obtain rfl := List.mem_singleton.1 h
    rw [spL_one]
    omega
  | q :: q2 :: ps, h => by
    rw [spL_cons, List.length_append, List.length_cons]
    rcases List.mem_cons.1 h with rfl | h
    · omega
    · have := spL_mem_len h
      omega
/-- The fields of a short form are short. -/
theorem form_sm {r : RI} (hr : rsOk r = true) (h : (rsForm r).length ≤ 3000) : RIsm r := by
  obtain ⟨fr, or⟩ := ok_own hr
  have hk := ok_kind fr
  have L : (rsForm r).length = (rsLine r).length + 2 := by unfold rsForm; simp
  refine ⟨?_, ?_, ?_⟩
  · by_cases e : r.kind = 9
    · have e1 : (rsLine r).length = (r.tag ++ [32] ++ rsStat r.status ++ [32] ++ r.text).length := by unfold rsLine; rw [if_neg (by omega), if_neg (by omega), if_neg (by omega), if_pos e]
      simp only [List.length_append] at e1
      omega
    · have h1 : r.tag = [] := by
        rw [congrArg RI.tag or]
        unfold rsOwn
        split
        · rfl
        · split
          · rfl
          · split
            · rfl
            · first | rfl | (rw [if_neg e])
      rw [h1]
      simp
  · by_cases e6 : 6 ≤ r.kind
    · by_cases e : r.kind = 9
      · have e1 : (rsLine r).length = (r.tag ++ [32] ++ rsStat r.status ++ [32] ++ r.text).length := by unfold rsLine; rw [if_neg (by omega), if_neg (by omega), if_neg (by omega), if_pos e]
        simp only [List.length_append] at e1
        omega
      · have e1 : (rsLine r).length = (rsPre r.kind ++ r.text).length := by unfold rsLine; rw [if_neg (by omega), if_neg (by omega), if_neg (by omega), if_neg e]
        simp only [List.length_append] at e1
        omega
    · have h1 : r.text = [] := by
        rw [congrArg RI.text or]
        unfold rsOwn
        split
        · rfl
        · split
          · rfl
          · rw [if_pos (by omega)]
      rw [h1]
      simp
  · by_cases e : r.kind = 4
    · cases hb : rsBit r.items 16 with
      | true =>
        have hm := spL_mem_len ((mem_part r).2.2.2 hb)
        have e1 : (rsLine r).length = ([42, 32] ++ Lib.decDigits r.n ++ [32, 70, 69, 84, 67, 72, 32, 40] ++ spL (rsParts r) ++ [41]).length := by unfold rsLine; rw [if_neg (by omega), if_pos e]
        unfold literalL at hm
        simp only [List.length_append] at e1 hm
        omega
      | false =>
        have h1 : r.body = [] := by
          rw [congrArg RI.body or]
          unfold rsOwn
          rw [if_neg (by omega), if_pos e]
          show (if rsBit r.items 16 = true then r.body else []) = []
          rw [hb]
          rfl
        rw [h1]
        simp
    · have h1 : r.body = [] := by
        rw [congrArg RI.body or]
        unfold rsOwn
        split
        · rfl
        · split
          · rfl
          · split <;> rfl
      rw [h1]
      simp
end Go.Proofs.YtpoejnajnaolpaaGreatDoor
