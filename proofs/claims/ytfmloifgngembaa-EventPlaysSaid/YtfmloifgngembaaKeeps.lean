/- What stays: blocks of one element type. -/
import Derived.WalkKit
import Derived.RangeFuncBox
import Derived.Laws.OwnMore
import Derived.Maps.AppendAt
namespace Go.Proofs.Ytfmloifgngembaa
open Go.RowKit

/-- Blocks of element type T lie as they lay. -/
def KeepsT (T : TypeId) (A B : World) : Prop := A.heap.size ≤ B.heap.size ∧ ∀ (i : Nat) (cs : Array Value) (fr : Nat × Nat), A.heap[i]? = some (Obj.cells cs T fr) → B.heap[i]? = some (Obj.cells cs T fr)
theorem KeepsT.refl (T : TypeId) (A : World) : KeepsT T A A := ⟨Nat.le_refl _, fun _ _ _ h => h⟩
theorem keepsT_t {T : TypeId} {A B C : World} (h : KeepsT T A B) (k : KeepsT T B C) : KeepsT T A C := ⟨Nat.le_trans h.1 k.1, fun i cs fr hi => k.2 i cs fr (h.2 i cs fr hi)⟩
theorem KeepsT.grown {T : TypeId} {A B : World} {row : Option Nat} (hg : A.grownBy B row) (hr : ∀ r, row = some r → ∀ (cs : Array Value) (fr : Nat × Nat), A.heap[r]? ≠ some (Obj.cells cs T fr)) : KeepsT T A B :=
  ⟨hg.size, fun i cs fr hi => by
    rw [hg.block i (Array.getElem?_eq_some_iff.1 hi).1 (fun e => hr i e.symm cs fr hi)]
    exact hi⟩
theorem KeepsT.alloc {T : TypeId} {A B : World} (h : KeepsT T A B) (o : Obj) : KeepsT T A (B.alloc o) :=
  ⟨Nat.le_trans h.1 (by simp), fun i cs fr hi => by
    have := h.2 i cs fr hi
    exact (Below.heap_alloc B o i (Array.getElem?_eq_some_iff.1 this).1).trans this⟩
theorem KeepsT.own {T : TypeId} {A B : World} (h : KeepsT T A B) {base size n : Nat} {v : Value} {xs : List Value} (ho : A.ownsRow base T size v n xs) : B.ownsRow base T size v n xs := by
  refine ⟨ho.1, ?_⟩
  rcases ho.2 with h1 | ⟨g, cap, cur, h1, h2, h3, h4⟩
  · exact .inl h1
  · exact .inr ⟨g, cap, cur, h1, h2, h.2 _ _ _ h3, h4⟩
theorem KeepsT.box {T : TypeId} {A B : World} (h : KeepsT T A B) {i : Nat} {cs : Array Value} (hi : A.heap[i]? = some (Obj.cells cs T (0, 0))) : B.heap[i]? = some (Obj.cells cs T (0, 0)) := h.2 _ _ _ hi
theorem box_cell {A : World} {T : TypeId} {i : Nat} {cs : Array Value} (hi : A.heap[i]? = some (Obj.cells cs T (0, 0))) (j : Nat) (v : Value) (hj : cs[j]? = some v) : A.cell? ⟨i, j, none⟩ = some v := by
  rw [cell_of_row A i j cs T (0, 0) hi]; exact hj

theorem grown_setCell (W : World) (b o : Nat) (v : Value) : W.grownBy (W.setCell ⟨b, o, none⟩ v) (some b) :=
  ⟨rfl, rfl, rfl, by simp [World.setCell], fun k _ hk => Below.heap_setCell _ _ _ k (fun e => hk (by rw [e]))⟩
theorem KeepsT.setAt {T T' : TypeId} {A B : World} {b : Nat} {cs : Array Value} {fr : Nat × Nat} (h : KeepsT T A B) (hb : B.heap[b]? = some (Obj.cells cs T' fr)) (hT : T' ≠ T) (o : Nat) (v : Value) : KeepsT T A (B.setCell ⟨b, o, none⟩ v) :=
  keepsT_t h (KeepsT.grown (grown_setCell B b o v) (fun r e _ _ hc => by
    cases e
    have := hb.symm.trans hc
    simp at this
    exact hT this.2.1))
theorem KeepsT.set_ {T T' : TypeId} {A B : World} {b : Nat} {u : Value} (h : KeepsT T A B) (hb : Boxed B b T' u) (hT : T' ≠ T) (v : Value) : KeepsT T A (B.setCell ⟨b, 0, none⟩ v) :=
  h.setAt (show B.heap[b]? = _ from hb) hT 0 v
theorem KeepsT.below {T : TypeId} {A B C : World} (h : KeepsT T A B) (hb : Below B.heap.size B C) : KeepsT T A C :=
  keepsT_t h ⟨hb.size, fun i _ _ hi => (hb.block i (Array.getElem?_eq_some_iff.1 hi).1).trans hi⟩
theorem KeepsT.own_app {T e : TypeId} {W w1 : World} {base size n : Nat} {v : Value} {xs : List Value} (hrow : W.ownsRow base e size v n xs) (hT : e ≠ T) (hg : W.grownBy w1 v.ownBlock) : KeepsT T W w1 :=
  KeepsT.grown hg (fun r er _ _ hc => by
    rcases hrow.2 with ⟨rfl, _⟩ | ⟨g, cap, cur, rfl, _, hgb, _⟩
    · simp [Value.ownBlock] at er
    · obtain rfl : g = r := by simpa [Value.ownBlock] using er
      have := hgb.symm.trans hc
      simp at this
      exact hT this.2.1)
theorem KeepsT.app {T e : TypeId} {W w1 : World} {base size n : Nat} {v : Value} {xs : List Value} {tmp : Obj} (hrow : W.ownsRow base e size v n xs) (hT : e ≠ T) (hg : (W.alloc tmp).grownBy w1 v.ownBlock) : KeepsT T W w1 :=
  keepsT_t ((KeepsT.refl T W).alloc tmp) (KeepsT.grown hg (fun r er _ _ hc => by
    rcases (hrow.alloc tmp).2 with ⟨rfl, _⟩ | ⟨g, cap, cur, rfl, _, hgb, _⟩
    · simp [Value.ownBlock] at er
    · obtain rfl : g = r := by simpa [Value.ownBlock] using er
      have := hgb.symm.trans hc
      simp at this
      exact hT this.2.1))
theorem own_below {w w' : World} {base : Nat} {e : TypeId} {size n : Nat} {v : Value} {xs : List Value} (h : w.ownsRow base e size v n xs) (hb : Below w.heap.size w w') : w'.ownsRow base e size v n xs := by
  refine ⟨h.1, ?_⟩
  rcases h.2 with h1 | ⟨g, cap, cur, h1, h2, h3, h4⟩
  · exact .inl h1
  · exact .inr ⟨g, cap, cur, h1, h2, (hb.block g (Array.getElem?_eq_some_iff.1 h3).1).trans h3, h4⟩
theorem own_any {w : World} {base : Nat} {e : TypeId} {size n : Nat} {v : Value} {xs : List Value} (h : w.ownsRow base e size v n xs) : ∃ A c, v = .slice A n c := by
  rcases h.2 with ⟨rfl, rfl⟩ | ⟨g, cap, cur, rfl, _⟩
  · exact ⟨_, _, rfl⟩
  · exact ⟨_, _, rfl⟩
theorem grown_of_below {w w' : World} {row : Option Nat} (h : Below w.heap.size w w') : w.grownBy w' row := ⟨h.os, h.tape, h.output, h.size, fun k hk _ => h.block k hk⟩
theorem grown_set {w w' : World} {b : Nat} (h : w.grownBy w' (some b)) (i : Nat) (v : Value) : w.grownBy (w'.setCell ⟨b, i, none⟩ v) (some b) := h.trans (grown_setCell w' b i v)
end Go.Proofs.Ytfmloifgngembaa
