/- All memory as it was, but for the blocks of a set, and new ones. -/
import Derived.Test.YtfmloifgngembaaAl
import Derived.Test.YtfmloifgngembaaNumB
import Derived.Test.YtfmloifgngembaaRegB
namespace Go.Proofs.Ytfmloifgngembaa
open Go.RowKit

structure KeptO (S : Nat → Prop) (w w' : World) : Prop where
  os : w'.os = w.os
  tape : w'.tape = w.tape
  output : w'.output = w.output
  size : w.heap.size ≤ w'.heap.size
  block : ∀ k, k < w.heap.size → ¬ S k → w'.heap[k]? = w.heap[k]?
section
variable {S S' : Nat → Prop} {w w' w'' : World}
theorem KeptO.refl (S : Nat → Prop) (w : World) : KeptO S w w := ⟨rfl, rfl, rfl, Nat.le_refl _, fun _ _ _ => rfl⟩
theorem KeptO.of_below (h : Below w.heap.size w w') : KeptO S w w' := ⟨h.os, h.tape, h.output, h.size, fun k hk _ => h.block k hk⟩
theorem KeptO.of_grown {row : Option Nat} (h : w.grownBy w' row) (hr : ∀ r, row = some r → S r) : KeptO S w w' :=
  ⟨h.os, h.tape, h.output, h.size, fun k hk hS => h.block k hk (fun e => hS (hr k e.symm))⟩
theorem KeptO.mono (h : KeptO S w w') (hs : ∀ k, S k → S' k) : KeptO S' w w' := ⟨h.os, h.tape, h.output, h.size, fun k hk hS => h.block k hk fun e => hS (hs k e)⟩
/-- One after the other; the second's set may hold blocks that are new. -/
theorem KeptO.trans (h : KeptO S w w') (k : KeptO S' w' w'') (hs : ∀ j, S' j → S j ∨ w.heap.size ≤ j) : KeptO S w w'' :=
  ⟨k.os.trans h.os, k.tape.trans h.tape, k.output.trans h.output, Nat.le_trans h.size k.size, fun j hj hS => (k.block j (Nat.lt_of_lt_of_le hj h.size) fun e => by
    rcases hs j e with e | e
    · exact hS e
    · omega).trans (h.block j hj hS)⟩
theorem KeptO.then_below (h : KeptO S w w') (k : Below w'.heap.size w' w'') : KeptO S w w'' := h.trans (KeptO.of_below (S := S) k) fun _ e => .inl e
theorem KeptO.after_below (h : Below w.heap.size w w') (k : KeptO S w' w'') : KeptO S w w'' := (KeptO.of_below (S := S) h).trans k fun _ e => .inl e
theorem KeptO.below {B : Nat} (h : KeptO S w w') (hS : ∀ k, S k → B ≤ k) (hB : B ≤ w.heap.size) : Below B w w' :=
  ⟨h.os, h.tape, h.output, h.size, fun k hk => h.block k (Nat.lt_of_lt_of_le hk hB) fun e => by have := hS k e; omega⟩
theorem KeptO.heap (h : KeptO S w w') {k : Nat} {o : Obj} (hk : w.heap[k]? = some o) (hS : ¬ S k) : w'.heap[k]? = some o :=
  (h.block k (Array.getElem?_eq_some_iff.1 hk).1 hS).trans hk
theorem KeptO.cell (h : KeptO S w w') {a : Addr} {v : Value} (hlt : a.block < w.heap.size) (hc : w.cell? a = some v) (hS : ¬ S a.block) : w'.cell? a = some v :=
  (World.cell?_of_block (h.block a.block hlt hS)).trans hc
/-- What behind a call is known of an object's blocks: they are the old ones or new. -/
def MoreQ (S S' : Nat → Prop) (w : World) : Prop := ∀ k, S' k → S k ∨ w.heap.size ≤ k
/-- A slice's array lies outside the set. -/
def Out (S : Nat → Prop) (A : Option Addr) : Prop := ∀ a, A = some a → ¬ S a.block
theorem Out.none (S : Nat → Prop) : Out S none := fun a h => by cases h
theorem SlAt.keptO {α : Type} {enc : α → List Value} {k : Nat} {A : Option Addr} {l : List α} (h : SlAt enc k w A l) (ho : Out S A) (hk : KeptO S w w') : SlAt enc k w' A l := by
  rcases h with h | ⟨b, off, hA, hlt, hc⟩
  · exact .inl h
  · exact .inr ⟨b, off, hA, Nat.lt_of_lt_of_le hlt hk.size, fun j x hj i v hi => hk.cell (a := ⟨b, off + j * k + i, Option.none⟩) hlt (hc j x hj i v hi) (show ¬ S b from ho _ hA)⟩
theorem own_out {base : Nat} {e : TypeId} {size n m c : Nat} {A : Option Addr} {xs : List Value} (h : w.ownsRow base e size (.slice A m c) n xs) (hS : ∀ k, S k → k < base) : Out S A := by
  intro a ha hSa
  rcases h.2 with ⟨h1, _⟩ | ⟨g, cap, cur, h1, hb, _⟩
  · injection h1 with h1
    rw [h1] at ha
    cases ha
  · injection h1 with h1
    rw [h1] at ha
    injection ha with ha
    subst ha
    have := hS _ hSa
    simp only at this
    omega
end
end Go.Proofs.Ytfmloifgngembaa
