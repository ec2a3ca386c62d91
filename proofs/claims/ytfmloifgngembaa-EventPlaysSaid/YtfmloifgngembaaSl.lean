/- Slices that read as lists: whatever elements of k cells each; an empty one of whatever address. -/
import Derived.Test.YtfmloifgngembaaBase
import Derived.Laws.AppendOwn
import Derived.Laws.OwnMore
import Derived.Shelf.SlicesQ.Load
namespace Go.Proofs.Ytfmloifgngembaa
open Go.RowKit

section
variable {α : Type} {enc : α → List Value} {k : Nat} {w w' : World} {A : Option Addr} {l : List α}

/-- The slice of address A holds the list l (its length is the list's). -/
def SlAt (enc : α → List Value) (k : Nat) (w : World) (A : Option Addr) (l : List α) : Prop :=
  l = [] ∨ ∃ b off, A = some ⟨b, off, none⟩ ∧ b < w.heap.size ∧ ∀ j x, l[j]? = some x → ∀ i v, (enc x)[i]? = some v → w.cell? ⟨b, off + j * k + i, none⟩ = some v

theorem SlAt.nil : SlAt enc k w A [] := .inl rfl
theorem SlAt.below (h : SlAt enc k w A l) (hb : Below w.heap.size w w') : SlAt enc k w' A l := by
  rcases h with h | ⟨b, off, hA, hlt, hc⟩
  · exact .inl h
  · exact .inr ⟨b, off, hA, Nat.lt_of_lt_of_le hlt hb.size, fun j x hj i v hi => (hb.cell (p := ⟨b, off + j * k + i, none⟩) hlt).trans (hc j x hj i v hi)⟩
/-- At an index within it: the address is plain, and the element's cells lie there. -/
theorem SlAt.at_ (h : SlAt enc k w A l) {j : Nat} (hj : j < l.length) :
    ∃ b off, A = some ⟨b, off, none⟩ ∧ b < w.heap.size ∧ ∀ i v, (enc l[j])[i]? = some v → w.cell? ⟨b, off + j * k + i, none⟩ = some v := by
  rcases h with rfl | ⟨b, off, hA, hlt, hc⟩
  · simp at hj
  · exact ⟨b, off, hA, hlt, hc j _ (List.getElem?_eq_getElem hj)⟩

/-- The flattened cells. -/
def flatL (enc : α → List Value) (l : List α) : List Value := l.flatMap enc
theorem flatL_nil : flatL enc [] = [] := rfl
theorem flatL_append (a b : List α) : flatL enc (a ++ b) = flatL enc a ++ flatL enc b := by simp [flatL]
theorem flatL_length (hk : ∀ x, (enc x).length = k) (l : List α) : (flatL enc l).length = l.length * k := by
  induction l with
  | nil => simp [flatL]
  | cons x l ih =>
    have : flatL enc (x :: l) = enc x ++ flatL enc l := rfl
    rw [this, List.length_append, ih, hk, List.length_cons, Nat.add_mul, Nat.one_mul, Nat.add_comm]
theorem flatL_at (hk : ∀ x, (enc x).length = k) (l : List α) (j : Nat) (x : α) (hj : l[j]? = some x) (i : Nat) (v : Value) (hi : (enc x)[i]? = some v) : (flatL enc l)[j * k + i]? = some v := by
  induction l generalizing j with
  | nil => simp at hj
  | cons y l ih =>
    have e : flatL enc (y :: l) = enc y ++ flatL enc l := rfl
    have hik : i < k := by rw [← hk x]; exact (List.getElem?_eq_some_iff.1 hi).1
    rw [e]
    cases j with
    | zero =>
      obtain rfl : y = x := by simpa using hj
      rw [List.getElem?_append_left (by rw [hk]; omega)]
      simpa using hi
    | succ j =>
      have hj' : l[j]? = some x := by simpa using hj
      rw [List.getElem?_append_right (by rw [hk, Nat.add_mul]; omega), hk]
      have e2 : (j + 1) * k + i - k = j * k + i := by rw [Nat.add_mul]; omega
      rw [e2]
      exact ih j hj'

/-- A slice that the call made itself reads as its list. -/
theorem SlAt.of_own {base : Nat} {e : TypeId} {n c : Nat} (hk : ∀ x, (enc x).length = k) (h : w.ownsRow base e k (.slice A n c) l.length (flatL enc l)) : SlAt enc k w A l := by
  rcases h.2 with ⟨h1, h2⟩ | ⟨g, cap, cur, h1, hg, hh, _⟩
  · exact .inl (List.eq_nil_of_length_eq_zero h2)
  · injection h1 with h1 h2 h3
    subst h1
    refine .inr ⟨g, 0, rfl, ?_, fun j x hj i v hi => ?_⟩
    · rcases Nat.lt_or_ge g w.heap.size with hlt | hge
      · exact hlt
      · rw [Array.getElem?_eq_none hge] at hh; cases hh
    · have := h.cells (g := g) rfl (j * k + i) v (flatL_at hk l j x hj i v hi)
      rw [Addr.add_lit] at this
      simpa using this
end
theorem below_al (w : World) (o : Obj) : Below w.heap.size w (w.alloc o) := (Below.refl _ _).alloc (Nat.le_refl _) o
theorem below_drew {w : World} (n : Nat) : Below w.heap.size w (w.drewN n) := ⟨rfl, rfl, rfl, Nat.le_refl _, fun _ _ => rfl⟩
end Go.Proofs.Ytfmloifgngembaa
