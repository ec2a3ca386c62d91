/- All memory as it was, but for the blocks of a set, and new ones. -/
import Derived.Test.YthdbbappojkmoaaGreatHa
import Derived.Laws.OwnMore
namespace Go.Proofs.YthdbbappojkmoaaGreat
open Go.RowKit

structure KeptO (S : Nat → Prop) (w w' : World) : Prop where
  os : w'.os = w.os
  tape : w'.tape = w.tape
  output : w'.output = w.output
  size : w.heap.size ≤ w'.heap.size
  block : ∀ k, k < w.heap.size → ¬ S k → w'.heap[k]? = w.heap[k]?
section
variable {S S' : Nat → Prop} {w w' w'' : World}
theorem KeptO.refl (S : Nat → Prop) (w : World) : KeptO S w w := ⟨rfl, rfl, rfl, Nat.le_refl _, fun _ _ _ => rfl⟩
theorem KeptO.of_below (h : Below w.heap.size w w') : KeptO S w w' := ⟨h.os, h.tape, h.output, h.size, fun k hk _ => h.block k hk⟩
theorem KeptO.of_grown {row : Option Nat} (h : w.grownBy w' row) (hr : ∀ r, row = some r → S r) : KeptO S w w' :=
  ⟨h.os, h.tape, h.output, h.size, fun k hk hS => h.block k hk (fun e => hS (hr k e.symm))⟩
theorem KeptO.mono (h : KeptO S w w') (hs : ∀ k, S k → S' k) : KeptO S' w w' := ⟨h.os, h.tape, h.output, h.size, fun k hk hS => h.block k hk fun e => hS (hs k e)⟩
/-- One after the other; the second's set may hold blocks that are new. -/
theorem KeptO.trans (h : KeptO S w w') (k : KeptO S' w' w'') (hs : ∀ j, S' j → S j ∨ w.heap.size ≤ j) : KeptO S w w'' :=
  ⟨k.os.trans h.os, k.tape.trans h.tape, k.output.trans h.output, Nat.le_trans h.size k.size, fun j hj hS => (k.block j (Nat.lt_of_lt_of_le hj h.size) fun e => by
    rcases hs j e with e | e
    · exact hS e
    · omega).trans (h.block j hj hS)⟩
theorem KeptO.then_below (h : KeptO S w w') (k : Below w'.heap.size w' w'') : KeptO S w w'' := h.trans (KeptO.of_below (S := S) k) fun _ e => .inl e
theorem KeptO.after_below (h : Below w.heap.size w w') (k : KeptO S w' w'') : KeptO S w w'' := (KeptO.of_below (S := S) h).trans k fun _ e => .inl e
theorem KeptO.below {B : Nat} (h : KeptO S w w') (hS : ∀ k, S k → B ≤ k) (hB : B ≤ w.heap.size) : Below B w w' :=
  ⟨h.os, h.tape, h.output, h.size, fun k hk => h.block k (Nat.lt_of_lt_of_le hk hB) fun e => by have := hS k e; omega⟩
theorem KeptO.heap (h : KeptO S w w') {k : Nat} {o : Obj} (hk : w.heap[k]? = some o) (hS : ¬ S k) : w'.heap[k]? = some o :=
  (h.block k (Array.getElem?_eq_some_iff.1 hk).1 hS).trans hk
theorem KeptO.cell (h : KeptO S w w') {a : Addr} {v : Value} (hlt : a.block < w.heap.size) (hc : w.cell? a = some v) (hS : ¬ S a.block) : w'.cell? a = some v :=
  (World.cell?_of_block (h.block a.block hlt hS)).trans hc
/-- What behind a call is known of an object's blocks: they are the old ones or new. -/
def MoreQ (S S' : Nat → Prop) (w : World) : Prop := ∀ k, S' k → S k ∨ w.heap.size ≤ k
/-- A slice's array lies outside the set. -/
def Out (S : Nat → Prop) (A : Option Addr) : Prop := ∀ a, A = some a → ¬ S a.block
theorem Out.none (S : Nat → Prop) : Out S none := fun a h => by cases h
theorem SlAt.keptO {α : Type} {enc : α → List Value} {k : Nat} {A : Option Addr} {l : List α} (h : SlAt enc k w A l) (ho : Out S A) (hk : KeptO S w w') : SlAt enc k w' A l := by
  rcases h with h | ⟨b, off, hA, hlt, hc⟩
  · exact .inl h
  · exact .inr ⟨b, off, hA, Nat.lt_of_lt_of_le hlt hk.size, fun j x hj i v hi => hk.cell (a := ⟨b, off + j * k + i, Option.none⟩) hlt (hc j x hj i v hi) (show ¬ S b from ho _ hA)⟩
theorem own_out {base : Nat} {e : TypeId} {size n m c : Nat} {A : Option Addr} {xs : List Value} (h : w.ownsRow base e size (.slice A m c) n xs) (hS : ∀ k, S k → k < base) : Out S A := by
  intro a ha hSa
  rcases h.2 with ⟨h1, _⟩ | ⟨g, cap, cur, h1, hb, _⟩
  · injection h1 with h1
    rw [h1] at ha
    cases ha
  · injection h1 with h1
    rw [h1] at ha
    injection ha with ha
    subst ha
    have := hS _ hSa
    simp only at this
    omega
end
end Go.Proofs.YthdbbappojkmoaaGreat

namespace Go.Proofs.YthdbbappojkmoaaGreat
open Go.RowKit

/-- Something that lies in blocks of its own: as long as they stay, it stays. -/
structure Item where
  blocks : Nat → Prop
  holds : World → Prop
  kept : ∀ W W', holds W → W.heap.size ≤ W'.heap.size → (∀ k, blocks k → W'.heap[k]? = W.heap[k]?) → holds W'
  lt : ∀ W, holds W → ∀ k, blocks k → k < W.heap.size
/-- A block. -/
def boxI (b : Nat) (x : Obj) : Item where
  blocks k := k = b
  holds W := W.heap[b]? = some x
  kept W W' h _ hb := (hb b rfl).trans h
  lt W h k hk := by subst hk; exact (Array.getElem?_eq_some_iff.1 h).1
/-- A row of the law's own, from block B on. -/
def rowI (B : Nat) (T : TypeId) (sz : Nat) (A : Option Addr) (n c : Nat) (xs : List Value) : Item where
  blocks k := ∃ a, A = some a ∧ a.block = k
  holds W := W.ownsRow B T sz (.slice A n c) n xs
  kept W W' h _ hb := by
    refine ⟨h.1, h.2.imp id ?_⟩
    rintro ⟨k, cap, cur, h1, h2, h3, h4⟩
    have hA : A = some ⟨k, 0, none⟩ := by injection h1
    exact ⟨k, cap, cur, h1, h2, (hb k ⟨_, hA, rfl⟩).trans h3, h4⟩
  lt W h k hk := by
    obtain ⟨a, ha, rfl⟩ := hk
    rcases h.2 with ⟨e, _⟩ | ⟨g, cap, cur, e, hb, h5, _⟩
    · injection e with e
      rw [e] at ha
      cases ha
    · injection e with e
      rw [e] at ha
      cases ha
      exact (Array.getElem?_eq_some_iff.1 h5).1
theorem rowI_ge {B : Nat} {T : TypeId} {sz n c : Nat} {A : Option Addr} {xs : List Value} {W : World} (h : (rowI B T sz A n c xs).holds W) : ∀ k, (rowI B T sz A n c xs).blocks k → B ≤ k := by
  rintro k ⟨a, ha, rfl⟩
  rcases h.2 with ⟨e, _⟩ | ⟨g, cap, cur, e, hb, h5, _⟩
  · injection e with e
    rw [e] at ha
    cases ha
  · injection e with e
    rw [e] at ha
    cases ha
    exact hb
/-- What an object must keep. -/
structure ObjK (T : (Nat → Prop) → World → Prop) : Prop where
  lt : ∀ S W, T S W → ∀ k, S k → k < W.heap.size
  kept : ∀ S S' W W', T S W → KeptO S' W W' → (∀ k, S k → ¬ S' k) → T S W'
/-- The object T, the items beside it, all from block B on; below B nothing has changed since w0. -/
structure OX (B : Nat) (T : (Nat → Prop) → World → Prop) (items : List Item) (w0 W : World) : Prop where
  tb : ∃ S, T S W ∧ (∀ k, S k → B ≤ k) ∧ ∀ it ∈ items, ∀ k, it.blocks k → ¬ S k
  it : ∀ it ∈ items, it.holds W
  ge : ∀ it ∈ items, ∀ k, it.blocks k → B ≤ k
  be : Below B w0 W
  sz : B ≤ W.heap.size
section
variable {B : Nat} {T T' : (Nat → Prop) → World → Prop} {items items' : List Item} {w0 W W' : World}
theorem Item.keptO {it : Item} {S : Nat → Prop} (h : it.holds W) (hk : KeptO S W W') (hS : ∀ k, it.blocks k → ¬ S k) : it.holds W' :=
  it.kept W W' h hk.size fun k e => hk.block k (it.lt W h k e) (hS k e)
theorem OX.start {S : Nat → Prop} (hB : B = w0.heap.size) (t : T S W) (hs : ∀ k, S k → B ≤ k) (hb : Below B w0 W) : OX B T [] w0 W :=
  ⟨⟨S, t, hs, (fun it h => by cases h)⟩, (fun it h => by cases h), (fun it h => by cases h), hb, by have := hb.size; omega⟩
theorem OX.below (hT : ObjK T) (h : OX B T items w0 W) (hb : Below W.heap.size W W') : OX B T items w0 W' := by
  obtain ⟨S, h1, h2, h3⟩ := h.tb
  have k := KeptO.of_below (S := fun _ => False) hb
  exact ⟨⟨S, hT.kept _ _ _ _ h1 k fun _ _ => id, h2, h3⟩, fun it hi => Item.keptO (h.it it hi) k fun _ _ => id, h.ge, h.be.trans (hb.mono h.sz), Nat.le_trans h.sz hb.size⟩
theorem OX.sub (h : OX B T items w0 W) (hs : ∀ it ∈ items', it ∈ items) : OX B T items' w0 W := by
  obtain ⟨S, h1, h2, h3⟩ := h.tb
  exact ⟨⟨S, h1, h2, fun it hi => h3 it (hs it hi)⟩, fun it hi => h.it it (hs it hi), fun it hi => h.ge it (hs it hi), h.be, h.sz⟩
/-- New items. -/
theorem OX.add (hT : ObjK T) (h : OX B T items w0 W) (hb : Below W.heap.size W W') (its : List Item) (hi : ∀ it ∈ its, it.holds W' ∧ ∀ k, it.blocks k → W.heap.size ≤ k) : OX B T (its ++ items) w0 W' := by
  have h' := h.below hT hb
  obtain ⟨S, h1, h2, h3⟩ := h.tb
  have k := KeptO.of_below (S := fun _ => False) hb
  refine ⟨⟨S, hT.kept _ _ _ _ h1 k fun _ _ => id, h2, fun it hit j hj e => ?_⟩, fun it hit => ?_, fun it hit j hj => ?_, h'.be, h'.sz⟩
  · rcases List.mem_append.1 hit with e2 | e2
    · have := (hi it e2).2 j hj
      have := hT.lt _ _ h1 j e
      omega
    · exact h3 it e2 j hj e
  · rcases List.mem_append.1 hit with e2 | e2
    · exact (hi it e2).1
    · exact h'.it it e2
  · rcases List.mem_append.1 hit with e2 | e2
    · exact Nat.le_trans h.sz ((hi it e2).2 j hj)
    · exact h.ge it e2 j hj
/-- An item has been written: it, and new blocks alone. -/
theorem OX.mut (hT : ObjK T) {it : Item} (h : OX B T items w0 W) (hi : it ∈ items) (hk : KeptO it.blocks W W') (its : List Item)
    (hn : ∀ x ∈ its, x.holds W' ∧ ∀ k, x.blocks k → it.blocks k ∨ W.heap.size ≤ k) (hs : ∀ x ∈ items', x ∈ items ∧ ∀ k, x.blocks k → ¬ it.blocks k) : OX B T (its ++ items') w0 W' := by
  obtain ⟨S, h1, h2, h3⟩ := h.tb
  refine ⟨⟨S, hT.kept _ _ _ _ h1 hk fun k hS e => h3 it hi k e hS, h2, fun x hx j hj e => ?_⟩, fun x hx => ?_, fun x hx j hj => ?_, h.be.trans (hk.below (fun k e => h.ge it hi k e) h.sz), Nat.le_trans h.sz hk.size⟩
  · rcases List.mem_append.1 hx with e2 | e2
    · rcases (hn x e2).2 j hj with e3 | e3
      · exact h3 it hi j e3 e
      · have := hT.lt _ _ h1 j e
        omega
    · exact h3 x (hs x e2).1 j hj e
  · rcases List.mem_append.1 hx with e2 | e2
    · exact (hn x e2).1
    · exact Item.keptO (h.it x (hs x e2).1) hk (hs x e2).2
  · rcases List.mem_append.1 hx with e2 | e2
    · rcases (hn x e2).2 j hj with e3 | e3
      · exact h.ge it hi j e3
      · exact Nat.le_trans h.sz e3
    · exact h.ge x (hs x e2).1 j hj
/-- Behind a call of the object: its blocks, and new ones; what is handed out lies outside. -/
theorem OX.call (h : OX B T items w0 W) {S S' : Nat → Prop} (h2 : ∀ k, S k → B ≤ k) (h3 : ∀ it ∈ items, ∀ k, it.blocks k → ¬ S k) (t : T' S' W') (m : MoreQ S S' W) (kk : KeptO S W W')
    (its : List Item) (hn : ∀ x ∈ its, x.holds W' ∧ ∀ k, x.blocks k → ¬ S' k ∧ (S k ∨ W.heap.size ≤ k)) : OX B T' (its ++ items) w0 W' := by
  refine ⟨⟨S', t, fun k hk => (m k hk).elim (h2 k) fun e => Nat.le_trans h.sz e, fun x hx j hj e => ?_⟩, fun x hx => ?_, fun x hx j hj => ?_, h.be.trans (kk.below h2 h.sz), Nat.le_trans h.sz kk.size⟩
  · rcases List.mem_append.1 hx with e2 | e2
    · exact ((hn x e2).2 j hj).1 e
    · rcases m j e with e3 | e3
      · exact h3 x e2 j hj e3
      · have := x.lt W (h.it x e2) j hj
        omega
  · rcases List.mem_append.1 hx with e2 | e2
    · exact (hn x e2).1
    · exact Item.keptO (h.it x e2) kk (h3 x e2)
  · rcases List.mem_append.1 hx with e2 | e2
    · exact ((hn x e2).2 j hj).2.elim (h2 j) fun e => Nat.le_trans h.sz e
    · exact h.ge x e2 j hj
end
end Go.Proofs.YthdbbappojkmoaaGreat

namespace Go.Proofs.YthdbbappojkmoaaGreat
open Go.RowKit

/-- An event: kind, identifier, flags. -/
structure EvI where
  k : Int
  u : Nat
  f : Nat
deriving DecidableEq
instance : Inhabited EvI := ⟨⟨0, 0, 0⟩⟩
def encEv (e : EvI) : List Value := [.int .i64 e.k, .int .u32 (e.u : Int), .int .u8 (e.f : Int)]
def evV (e : EvI) : Value := .agg #[.int .i64 e.k, .int .u32 (e.u : Int), .int .u8 (e.f : Int)]
theorem encEv_len (e : EvI) : (encEv e).length = 3 := rfl
theorem one_flatEv (l : List EvI) : ∀ u ∈ flatL encEv l, u.oneCell' = true := by
  intro u hu
  obtain ⟨r, _, hr⟩ := List.mem_flatMap.1 hu
  simp [encEv] at hr
  rcases hr with rfl | rfl | rfl <;> rfl
theorem infoEv : (Tryz.prog.info? 44).map (fun i => (i.zero, i.size, i.bytes)) = some (some (.agg #[.int .i64 0, .int .u32 0, .int .u8 0]), 3, 16) := by kernel_rfl
theorem SlAt.ev {w : World} {A : Option Addr} {l : List EvI} (h : SlAt encEv 3 w A l) {j : Nat} (hj : j < l.length) :
    ∃ b off, A = some ⟨b, off, none⟩ ∧ b < w.heap.size ∧ w.cell? ⟨b, off + j * 3, none⟩ = some (.int .i64 l[j].k) ∧ w.cell? ⟨b, off + j * 3 + 1, none⟩ = some (.int .u32 (l[j].u : Int)) ∧ w.cell? ⟨b, off + j * 3 + 2, none⟩ = some (.int .u8 (l[j].f : Int)) := by
  obtain ⟨b, off, hA, hb, hc⟩ := h.at_ hj
  exact ⟨b, off, hA, hb, by simpa using hc 0 _ rfl, hc 1 _ rfl, hc 2 _ rfl⟩
/-- One event in a block of its own. -/
theorem slAt_ev {W : World} {b : Nat} (x : EvI) (h : W.heap[b]? = some (.cells #[.int .i64 x.k, .int .u32 (x.u : Int), .int .u8 (x.f : Int)] 44)) : SlAt encEv 3 W (some ⟨b, 0, none⟩) [x] := by
  refine .inr ⟨b, 0, rfl, (Array.getElem?_eq_some_iff.1 h).1, fun j y hj i v hi => ?_⟩
  match j, hj with
  | 0, hj =>
    simp at hj
    subst hj
    match i, hi with
    | 0, hi => simp [encEv] at hi; subst hi; exact cell_of_row _ _ 0 _ _ _ h
    | 1, hi => simp [encEv] at hi; subst hi; exact cell_of_row _ _ 1 _ _ _ h
    | 2, hi => simp [encEv] at hi; subst hi; exact cell_of_row _ _ 2 _ _ _ h
    | n + 3, hi => simp [encEv] at hi
def evOk (e : EvI) : Prop := (-9223372036854775808 ≤ e.k ∧ e.k ≤ 9223372036854775807) ∧ e.u ≤ 4294967295 ∧ e.f ≤ 255

def knownE (e : EvI) : Bool := decide (1 ≤ e.k ∧ e.k ≤ 3)
/-- What a queue has behind Push. -/
def pushE (q l : List EvI) : List EvI := q ++ l.filter knownE
/-- A later change of the same message. -/
def laterE (x : EvI) (l : List EvI) : Bool := l.any fun y => decide (x.k = 3 ∧ y.k = 3 ∧ y.u = x.u)
def sqE : List EvI → List EvI
  | [] => []
  | x :: l => if laterE x l = true then sqE l else x :: sqE l
def toldE (gone : Bool) (q : List EvI) : List EvI := q.filter fun e => gone || decide (e.k ≠ 2)
def restE (gone : Bool) (q : List EvI) : List EvI := q.filter fun e => !(gone || decide (e.k ≠ 2))
def hasE (q : List EvI) (u : Nat) : Bool := q.any fun e => decide (e.k = 2 ∧ e.u = u)

theorem sqE_len : ∀ l : List EvI, (sqE l).length ≤ l.length
  | [] => Nat.le_refl _
  | x :: l => by
    have := sqE_len l
    unfold sqE
    split
    · simp; omega
    · simp; omega
theorem pushE_len (q l : List EvI) : (pushE q l).length ≤ q.length + l.length := by
  unfold pushE
  rw [List.length_append]
  have := List.length_filter_le knownE l
  omega
theorem toldE_len (g : Bool) (q : List EvI) : (toldE g q).length ≤ q.length := List.length_filter_le _ _
theorem restE_len (g : Bool) (q : List EvI) : (restE g q).length ≤ q.length := List.length_filter_le _ _
theorem sqE_sub : ∀ {l : List EvI} {x : EvI}, x ∈ sqE l → x ∈ l
  | y :: l, x, h => by
    unfold sqE at h
    split at h
    · exact List.mem_cons_of_mem _ (sqE_sub h)
    · rcases List.mem_cons.1 h with e | e
      · rw [e]; exact List.mem_cons_self ..
      · exact List.mem_cons_of_mem _ (sqE_sub e)
/-- What is squeezed has no change that another follows. -/
theorem sqE_later : ∀ {l : List EvI}, (sqE l).Pairwise fun x y => ¬ (x.k = 3 ∧ y.k = 3 ∧ y.u = x.u)
  | [] => .nil
  | x :: l => by
    unfold sqE
    split
    · exact sqE_later
    · next h =>
      refine List.pairwise_cons.2 ⟨fun y hy hxy => h ?_, sqE_later⟩
      unfold laterE
      rw [List.any_eq_true]
      exact ⟨y, sqE_sub hy, decide_eq_true hxy⟩
theorem sqE_id : ∀ {l : List EvI}, (l.Pairwise fun x y => ¬ (x.k = 3 ∧ y.k = 3 ∧ y.u = x.u)) → sqE l = l
  | [], _ => rfl
  | x :: l, h => by
    have h' := List.pairwise_cons.1 h
    unfold sqE
    rw [if_neg, sqE_id h'.2]
    unfold laterE
    rw [List.any_eq_true]
    rintro ⟨y, hy, e⟩
    exact h'.1 y hy (of_decide_eq_true e)
/-- Squeezing twice changes nothing more. -/
theorem sqE_twice (l : List EvI) : sqE (sqE l) = sqE l := sqE_id sqE_later
/-- Events that are no changes stay. -/
theorem sqE_filter (p : EvI → Bool) (hp : ∀ e, p e = true → e.k ≠ 3) : ∀ l : List EvI, (sqE l).filter p = l.filter p
  | [] => rfl
  | x :: l => by
    unfold sqE
    split
    · next h =>
      have hx : p x = false := by
        cases hpx : p x with
        | false => rfl
        | true =>
          unfold laterE at h
          rw [List.any_eq_true] at h
          obtain ⟨y, _, e⟩ := h
          exact absurd (of_decide_eq_true e).1 (hp x hpx)
      rw [List.filter_cons_of_neg (by simp [hx]), sqE_filter p hp l]
    · rw [List.filter_cons, List.filter_cons, sqE_filter p hp l]
end Go.Proofs.YthdbbappojkmoaaGreat

namespace Go.Proofs.YthdbbappojkmoaaGreat
open Go.RowKit

section
variable {α : Type} {enc : α → List Value} {size : Nat} {P : Program} (w : World)
/-- The append of a slice onto an own row, with what is known of the row's block. -/
theorem wpList_append_slg {ops : Array Oper} {rest : List Oper} {o : Oper} {a : Act} {Q : Exit → Act → World → Prop} (hgd : o.guard = none) (s x : Operand) (t : TypeId)
    (ho : o.op = .call { callee := .builtin .append, args := #[s, x], argTypes := #[t, t] })
    (base : Nat) (e : TypeId) (i : TypeInfo) (z : Value) (bytes : Nat) (ht : P.underlying t = some (.slice e)) (hi : P.info? e = some i) (hz : i.zero = some z)
    (hsize : i.size = size) (hby : i.bytes = bytes) (hzs : z.cells.size = size) (hsz : 0 < size)
    (v : Value) (n : Nat) (xs : List Value) (hs : a.eval s = v) (hown : w.ownsRow base e size v n xs)
    (ad : Addr) (l : List α) (m c : Nat) (hx : a.eval x = .slice (some ad) m c) (hm : l.length = m) (hk : ∀ x, (enc x).length = size) (hS : SlAt enc size w (some ad) l) (h1 : ∀ u ∈ flatL enc l, u.oneCell' = true)
    (h63 : n + l.length ≤ maxLen) (hbytes : (n + l.length) * bytes ≤ 140737488355328) (hbase : base ≤ w.heap.size)
    (h : ∀ v' w', w'.ownsRow base e size v' (n + l.length) (xs ++ flatL enc l) → w.grownBy w' v.ownBlock → (v'.ownBlock = v.ownBlock ∨ v'.ownBlock = some w.heap.size) → wpList P ops Q rest (a.put o.dst v') w') : wpList P ops Q (o :: rest) a w := by
  subst hm
  have hcells : ∀ j u, (flatL enc l)[j]? = some u → w.cell? (ad.add j) = some u := by
    intro j u hu
    rcases hS with rfl | ⟨b, off, hA, _, hc⟩
    · simp [flatL] at hu
    · injection hA with hA
      subst hA
      obtain ⟨q, r, x, rfl, h2, h3⟩ := flatL_find hk l j u hu
      have := hc q x h2 r u h3
      rw [Addr.add_lit, ← Nat.add_assoc]
      exact this
  obtain ⟨v', w', hrun, h2, h3, _, h4⟩ := run_append_own_at (P := P) w base t o.type e i z size bytes ht hi hz hsize hby hzs hsz v n xs hown ad l.length c (flatL enc l) (flatL_length hk l) hcells h1 h63 hbytes hbase
  refine wpList_plain hgd fun K hK => ?_
  unfold Oper.wp execOp
  simp only [ho, resolve, invoke, builtin, Sem.run_bind, Sem.run_pure, Result.andThen_ok, List.map_toArray, List.map_cons, List.map_nil, hs, hx, hrun]
  exact hK _ _ (h v' w' h2 h3 h4)
end
/-- Two slices whose arrays lie in different blocks. -/
def Apart (A1 A2 : Option Addr) : Prop := ∀ a1 a2, A1 = some a1 → A2 = some a2 → a1.block ≠ a2.block
theorem Apart.none_left (A : Option Addr) : Apart none A := fun a1 a2 h => by cases h
theorem Apart.none_right (A : Option Addr) : Apart A none := fun a1 a2 _ h => by cases h
theorem Apart.symm {A1 A2 : Option Addr} (h : Apart A1 A2) : Apart A2 A1 := fun a1 a2 h1 h2 e => h a2 a1 h2 h1 e.symm
/-- The other row, when one has grown. -/
theorem apart_step {w w' : World} {B : Nat} {T : TypeId} {sz n1 n2 c1 c2 n' c' : Nat} {A1 A1' A2 : Option Addr} {xs2 : List Value} (o : Obj) (h2 : w.ownsRow B T sz (.slice A2 n2 c2) n2 xs2) (hap : Apart A1 A2)
    (hg : (w.alloc o).grownBy w' (Value.slice A1 n1 c1).ownBlock) (hf : (Value.slice A1' n' c').ownBlock = (Value.slice A1 n1 c1).ownBlock ∨ (Value.slice A1' n' c').ownBlock = some (w.alloc o).heap.size) :
    w'.ownsRow B T sz (.slice A2 n2 c2) n2 xs2 ∧ Apart A1' A2 := by
  have hob : ∀ A n c, (Value.slice A n c).ownBlock = A.map Addr.block := fun A n c => by cases A <;> rfl
  rw [hob] at hg
  rw [hob, hob] at hf
  have hz : (w.alloc o).heap.size = w.heap.size + 1 := by simp
  have hlt : ∀ a2, A2 = some a2 → a2.block < w.heap.size := fun a2 h => by
    rcases h2.2 with ⟨e, _⟩ | ⟨g, cap, cur, e, _, h5, _⟩
    · injection e with e
      rw [e] at h
      cases h
    · injection e with e
      rw [e] at h
      cases h
      exact (Array.getElem?_eq_some_iff.1 h5).1
  refine ⟨⟨h2.1, h2.2.imp id ?_⟩, fun a1 a2 h1 h3 e => ?_⟩
  · rintro ⟨g, cap, cur, e1, e2, e3, e4⟩
    have hA : A2 = some ⟨g, 0, none⟩ := by injection e1
    refine ⟨g, cap, cur, e1, e2, ?_, e4⟩
    rw [hg.block g (by have := hlt _ hA; simp only at this; omega) (fun e => ?_)]
    · exact (Below.heap_alloc w o g (hlt _ hA)).trans e3
    · cases hA1 : A1 with
      | none => rw [hA1] at e; cases e
      | some a1 =>
        rw [hA1] at e
        exact hap a1 _ hA1 hA (Option.some.inj e).symm
  · rw [h1] at hf
    rcases hf with hf | hf
    · cases hA1 : A1 with
      | none => rw [hA1] at hf; cases hf
      | some x =>
        rw [hA1] at hf
        exact hap x a2 hA1 h3 ((Option.some.inj hf).symm.trans e)
    · have := Option.some.inj hf
      have := hlt a2 h3
      omega
end Go.Proofs.YthdbbappojkmoaaGreat
