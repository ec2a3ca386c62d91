/- Strings in parts between a byte: plain mathematics. -/
import Derived.WalkKit
import Derived.Lib.Bytealg
import Derived.Lib.IndexLaws
namespace Go.Proofs.YtchlmmglibladaaDoor
open Go.RowKit
open Go.Lib

/-- The parts of a string between the byte c: at least one. -/
def splitL (c : UInt8) : List UInt8 → List (List UInt8)
  | [] => [[]]
  | b :: l => if b = c then [] :: splitL c l else match splitL c l with
    | [] => [[b]]
    | p :: ps => (b :: p) :: ps
theorem splitL_ne (c : UInt8) : ∀ l, splitL c l ≠ []
  | [] => by simp [splitL]
  | b :: l => by
    unfold splitL
    split
    · simp
    · split <;> simp
theorem splitL_none {c : UInt8} : ∀ {l : List UInt8}, c ∉ l → splitL c l = [l]
  | [], _ => rfl
  | b :: l, h => by
    have h1 : b ≠ c := fun e => h (by simp [e])
    have h2 : c ∉ l := fun e => h (by simp [e])
    unfold splitL
    rw [if_neg h1, splitL_none h2]
theorem splitL_at {c : UInt8} : ∀ {a b : List UInt8}, c ∉ a → splitL c (a ++ c :: b) = a :: splitL c b
  | [], b, _ => by simp [splitL]
  | x :: a, b, h => by
    have h1 : x ≠ c := fun e => h (by simp [e])
    have h2 : c ∉ a := fun e => h (by simp [e])
    rw [List.cons_append, splitL, if_neg h1, splitL_at h2]

theorem index_neg {l : List UInt8} {c : UInt8} (h : indexByte l c < 0) : indexByte l c = -1 ∧ c ∉ l := by
  have h1 := indexByte_ge l c
  have h2 : indexByte l c = -1 := by omega
  refine ⟨h2, fun hm => ?_⟩
  obtain ⟨k, hk⟩ := List.getElem?_of_mem hm
  exact indexByte_none h2 k hk
theorem index_nat {l : List UInt8} {c : UInt8} (h : ¬ indexByte l c < 0) : ∃ o : Nat, indexByte l c = o ∧ o < l.length ∧ c ∉ l.take o ∧ l = l.take o ++ c :: l.drop (o + 1) := by
  obtain ⟨o, ho⟩ : ∃ o : Nat, indexByte l c = o := ⟨(indexByte l c).toNat, by omega⟩
  obtain ⟨h1, h2⟩ := indexByte_some ho
  have hlt : o < l.length := (List.getElem?_eq_some_iff.1 h1).1
  refine ⟨o, ho, hlt, fun hm => ?_, ?_⟩
  · obtain ⟨k, hk⟩ := List.getElem?_of_mem hm
    have hk2 : k < o := by
      have := (List.getElem?_eq_some_iff.1 hk).1
      rw [List.length_take] at this
      omega
    rw [List.getElem?_take_of_lt hk2] at hk
    exact h2 k hk2 hk
  · have he : l[o] = c := (List.getElem?_eq_some_iff.1 h1).2
    conv => lhs; rw [← List.take_append_drop o l, List.drop_eq_getElem_cons hlt, he]
end Go.Proofs.YtchlmmglibladaaDoor
