/- An own row lies where its block lies. -/
import Derived.Test.YtefodmbaknedkaaVa
import Derived.Laws.OwnMore
namespace Go.Proofs.Ytefodmbaknedkaa
open Go.RowKit

/-- A row lies where its block lies. -/
theorem own_lies {w w' : World} {base n m c sz : Nat} {T : TypeId} {A : Option Addr} {xs : List Value} (h : w.ownsRow base T sz (.slice A m c) n xs) (hb : ∀ a, A = some a → w'.heap[a.block]? = w.heap[a.block]?) : w'.ownsRow base T sz (.slice A m c) n xs := by
  refine ⟨h.1, h.2.imp id ?_⟩
  rintro ⟨k, cap, cur, h1, h2, h3, h4⟩
  have hA : A = some ⟨k, 0, none⟩ := by injection h1
  exact ⟨k, cap, cur, h1, h2, (hb _ hA).trans h3, h4⟩
theorem own_blk15 {w : World} {base n m c sz : Nat} {T : TypeId} {A : Option Addr} {xs : List Value} (h : w.ownsRow base T sz (.slice A m c) n xs) {a : Addr} (ha : A = some a) : base ≤ a.block ∧ a.block < w.heap.size := by
  rcases h.2 with ⟨e, _⟩ | ⟨g, cap, cur, e, hb, h5, _⟩
  · injection e with e
    rw [e] at ha
    cases ha
  · injection e with e
    rw [e] at ha
    cases ha
    exact ⟨hb, (Array.getElem?_eq_some_iff.1 h5).1⟩
end Go.Proofs.Ytefodmbaknedkaa

namespace Go.Proofs.Ytefodmbaknedkaa
open Go.RowKit

section
variable {α : Type} {enc : α → List Value} {size : Nat} {P : Program} (w : World)
/-- The append of a slice onto an own row, with what is known of the row's block. -/
theorem wpList_append_slg {ops : Array Oper} {rest : List Oper} {o : Oper} {a : Act} {Q : Exit → Act → World → Prop} (hgd : o.guard = none) (s x : Operand) (t : TypeId)
    (ho : o.op = .call { callee := .builtin .append, args := #[s, x], argTypes := #[t, t] })
    (base : Nat) (e : TypeId) (i : TypeInfo) (z : Value) (bytes : Nat) (ht : P.underlying t = some (.slice e)) (hi : P.info? e = some i) (hz : i.zero = some z)
    (hsize : i.size = size) (hby : i.bytes = bytes) (hzs : z.cells.size = size) (hsz : 0 < size)
    (v : Value) (n : Nat) (xs : List Value) (hs : a.eval s = v) (hown : w.ownsRow base e size v n xs)
    (ad : Addr) (l : List α) (m c : Nat) (hx : a.eval x = .slice (some ad) m c) (hm : l.length = m) (hk : ∀ x, (enc x).length = size) (hS : SlAt enc size w (some ad) l) (h1 : ∀ u ∈ flatL enc l, u.oneCell' = true)
    (h63 : n + l.length ≤ maxLen) (hbytes : (n + l.length) * bytes ≤ 140737488355328) (hbase : base ≤ w.heap.size)
    (h : ∀ v' w', w'.ownsRow base e size v' (n + l.length) (xs ++ flatL enc l) → w.grownBy w' v.ownBlock → (v'.ownBlock = v.ownBlock ∨ v'.ownBlock = some w.heap.size) → wpList P ops Q rest (a.put o.dst v') w') : wpList P ops Q (o :: rest) a w := by
  subst hm
  have hcells : ∀ j u, (flatL enc l)[j]? = some u → w.cell? (ad.add j) = some u := by
    intro j u hu
    rcases hS with rfl | ⟨b, off, hA, _, hc⟩
    · simp [flatL] at hu
    · injection hA with hA
      subst hA
      obtain ⟨q, r, x, rfl, h2, h3⟩ := flatL_find hk l j u hu
      have := hc q x h2 r u h3
      rw [Addr.add_lit, ← Nat.add_assoc]
      exact this
  obtain ⟨v', w', hrun, h2, h3, _, h4⟩ := run_append_own_at (P := P) w base t o.type e i z size bytes ht hi hz hsize hby hzs hsz v n xs hown ad l.length c (flatL enc l) (flatL_length hk l) hcells h1 h63 hbytes hbase
  refine wpList_plain hgd fun K hK => ?_
  unfold Oper.wp execOp
  simp only [ho, resolve, invoke, builtin, Sem.run_bind, Sem.run_pure, Result.andThen_ok, List.map_toArray, List.map_cons, List.map_nil, hs, hx, hrun]
  exact hK _ _ (h v' w' h2 h3 h4)
end
/-- Two slices whose arrays lie in different blocks. -/
def Apart (A1 A2 : Option Addr) : Prop := ∀ a1 a2, A1 = some a1 → A2 = some a2 → a1.block ≠ a2.block
theorem Apart.none_left (A : Option Addr) : Apart none A := fun a1 a2 h => by cases h
theorem Apart.none_right (A : Option Addr) : Apart A none := fun a1 a2 _ h => by cases h
theorem Apart.symm {A1 A2 : Option Addr} (h : Apart A1 A2) : Apart A2 A1 := fun a1 a2 h1 h2 e => h a2 a1 h2 h1 e.symm
/-- The other row, when one has grown. -/
theorem apart_step {w w' : World} {B : Nat} {T : TypeId} {sz n1 n2 c1 c2 n' c' : Nat} {A1 A1' A2 : Option Addr} {xs2 : List Value} (o : Obj) (h2 : w.ownsRow B T sz (.slice A2 n2 c2) n2 xs2) (hap : Apart A1 A2)
    (hg : (w.alloc o).grownBy w' (Value.slice A1 n1 c1).ownBlock) (hf : (Value.slice A1' n' c').ownBlock = (Value.slice A1 n1 c1).ownBlock ∨ (Value.slice A1' n' c').ownBlock = some (w.alloc o).heap.size) :
    w'.ownsRow B T sz (.slice A2 n2 c2) n2 xs2 ∧ Apart A1' A2 := by
  have hob : ∀ A n c, (Value.slice A n c).ownBlock = A.map Addr.block := fun A n c => by cases A <;> rfl
  rw [hob] at hg
  rw [hob, hob] at hf
  have hz : (w.alloc o).heap.size = w.heap.size + 1 := by simp
  have hlt : ∀ a2, A2 = some a2 → a2.block < w.heap.size := fun a2 h => by
    rcases h2.2 with ⟨e, _⟩ | ⟨g, cap, cur, e, _, h5, _⟩
    · injection e with e
      rw [e] at h
      cases h
    · injection e with e
      rw [e] at h
      cases h
      exact (Array.getElem?_eq_some_iff.1 h5).1
  refine ⟨⟨h2.1, h2.2.imp id ?_⟩, fun a1 a2 h1 h3 e => ?_⟩
  · rintro ⟨g, cap, cur, e1, e2, e3, e4⟩
    have hA : A2 = some ⟨g, 0, none⟩ := by injection e1
    refine ⟨g, cap, cur, e1, e2, ?_, e4⟩
    rw [hg.block g (by have := hlt _ hA; simp only at this; omega) (fun e => ?_)]
    · exact (Below.heap_alloc w o g (hlt _ hA)).trans e3
    · cases hA1 : A1 with
      | none => rw [hA1] at e; cases e
      | some a1 =>
        rw [hA1] at e
        exact hap a1 _ hA1 hA (Option.some.inj e).symm
  · rw [h1] at hf
    rcases hf with hf | hf
    · cases hA1 : A1 with
      | none => rw [hA1] at hf; cases hf
      | some x =>
        rw [hA1] at hf
        exact hap x a2 hA1 h3 ((Option.some.inj hf).symm.trans e)
    · have := Option.some.inj hf
      have := hlt a2 h3
      omega
end Go.Proofs.Ytefodmbaknedkaa

namespace Go.Proofs.Ytefodmbaknedkaa
open Go.RowKit

/-- What lies in a new block. -/
theorem slAt_box {α : Type} {enc : α → List Value} {k : Nat} {W : World} {T : TypeId} {cs : Array Value} {x : α} (h : cs.toList = enc x) : SlAt enc k (W.alloc (.cells cs T)) (some ⟨W.heap.size, 0, none⟩) [x] := by
  refine .inr ⟨W.heap.size, 0, rfl, by simp, fun j y hj i v hi => ?_⟩
  match j, hj with
  | 0, hj =>
    simp at hj
    subst hj
    rw [cell_of_row _ _ _ cs T _ (heap_alloc_new W _), ← Array.getElem?_toList, h]
    simpa using hi
end Go.Proofs.Ytefodmbaknedkaa

namespace Go.Proofs.Ytefodmbaknedkaa
open Go.RowKit

structure KeptO (S : Nat → Prop) (w w' : World) : Prop where
  os : w'.os = w.os
  tape : w'.tape = w.tape
  output : w'.output = w.output
  size : w.heap.size ≤ w'.heap.size
  block : ∀ k, k < w.heap.size → ¬ S k → w'.heap[k]? = w.heap[k]?
section
variable {S S' : Nat → Prop} {w w' w'' : World}
theorem KeptO.refl (S : Nat → Prop) (w : World) : KeptO S w w := ⟨rfl, rfl, rfl, Nat.le_refl _, fun _ _ _ => rfl⟩
theorem KeptO.of_below (h : Below w.heap.size w w') : KeptO S w w' := ⟨h.os, h.tape, h.output, h.size, fun k hk _ => h.block k hk⟩
theorem KeptO.of_grown {row : Option Nat} (h : w.grownBy w' row) (hr : ∀ r, row = some r → S r) : KeptO S w w' :=
  ⟨h.os, h.tape, h.output, h.size, fun k hk hS => h.block k hk (fun e => hS (hr k e.symm))⟩
theorem KeptO.mono (h : KeptO S w w') (hs : ∀ k, S k → S' k) : KeptO S' w w' := ⟨h.os, h.tape, h.output, h.size, fun k hk hS => h.block k hk fun e => hS (hs k e)⟩
/-- One after the other; the second's set may hold blocks that are new. -/
theorem KeptO.trans (h : KeptO S w w') (k : KeptO S' w' w'') (hs : ∀ j, S' j → S j ∨ w.heap.size ≤ j) : KeptO S w w'' :=
  ⟨k.os.trans h.os, k.tape.trans h.tape, k.output.trans h.output, Nat.le_trans h.size k.size, fun j hj hS => (k.block j (Nat.lt_of_lt_of_le hj h.size) fun e => by
    rcases hs j e with e | e
    · exact hS e
    · omega).trans (h.block j hj hS)⟩
theorem KeptO.then_below (h : KeptO S w w') (k : Below w'.heap.size w' w'') : KeptO S w w'' := h.trans (KeptO.of_below (S := S) k) fun _ e => .inl e
theorem KeptO.after_below (h : Below w.heap.size w w') (k : KeptO S w' w'') : KeptO S w w'' := (KeptO.of_below (S := S) h).trans k fun _ e => .inl e
theorem KeptO.below {B : Nat} (h : KeptO S w w') (hS : ∀ k, S k → B ≤ k) (hB : B ≤ w.heap.size) : Below B w w' :=
  ⟨h.os, h.tape, h.output, h.size, fun k hk => h.block k (Nat.lt_of_lt_of_le hk hB) fun e => by have := hS k e; omega⟩
theorem KeptO.heap (h : KeptO S w w') {k : Nat} {o : Obj} (hk : w.heap[k]? = some o) (hS : ¬ S k) : w'.heap[k]? = some o :=
  (h.block k (Array.getElem?_eq_some_iff.1 hk).1 hS).trans hk
theorem KeptO.cell (h : KeptO S w w') {a : Addr} {v : Value} (hlt : a.block < w.heap.size) (hc : w.cell? a = some v) (hS : ¬ S a.block) : w'.cell? a = some v :=
  (World.cell?_of_block (h.block a.block hlt hS)).trans hc
/-- What behind a call is known of an object's blocks: they are the old ones or new. -/
def MoreQ (S S' : Nat → Prop) (w : World) : Prop := ∀ k, S' k → S k ∨ w.heap.size ≤ k
/-- A slice's array lies outside the set. -/
def Out (S : Nat → Prop) (A : Option Addr) : Prop := ∀ a, A = some a → ¬ S a.block
theorem Out.none (S : Nat → Prop) : Out S none := fun a h => by cases h
theorem SlAt.keptO {α : Type} {enc : α → List Value} {k : Nat} {A : Option Addr} {l : List α} (h : SlAt enc k w A l) (ho : Out S A) (hk : KeptO S w w') : SlAt enc k w' A l := by
  rcases h with h | ⟨b, off, hA, hlt, hc⟩
  · exact .inl h
  · exact .inr ⟨b, off, hA, Nat.lt_of_lt_of_le hlt hk.size, fun j x hj i v hi => hk.cell (a := ⟨b, off + j * k + i, Option.none⟩) hlt (hc j x hj i v hi) (show ¬ S b from ho _ hA)⟩
theorem own_out {base : Nat} {e : TypeId} {size n m c : Nat} {A : Option Addr} {xs : List Value} (h : w.ownsRow base e size (.slice A m c) n xs) (hS : ∀ k, S k → k < base) : Out S A := by
  intro a ha hSa
  rcases h.2 with ⟨h1, _⟩ | ⟨g, cap, cur, h1, hb, _⟩
  · injection h1 with h1
    rw [h1] at ha
    cases ha
  · injection h1 with h1
    rw [h1] at ha
    injection ha with ha
    subst ha
    have := hS _ hSa
    simp only at this
    omega
end
end Go.Proofs.Ytefodmbaknedkaa
