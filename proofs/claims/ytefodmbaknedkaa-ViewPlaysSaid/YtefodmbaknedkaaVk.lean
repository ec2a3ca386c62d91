/- An object with blocks of its own, and what a law holds beside it. No walk. -/
import Derived.Test.YtefodmbaknedkaaVi
import Derived.Laws.OwnMore
import Derived.Test.YtefodmbaknedkaaVd
import Derived.Test.YtefodmbaknedkaaVh
import Derived.Test.YtefodmbaknedkaaIxB
namespace Go.Proofs.Ytefodmbaknedkaa
open Go.RowKit

/-- Something that lies in blocks of its own: as long as they stay, it stays. -/
structure Item where
  blocks : Nat → Prop
  holds : World → Prop
  kept : ∀ W W', holds W → W.heap.size ≤ W'.heap.size → (∀ k, blocks k → W'.heap[k]? = W.heap[k]?) → holds W'
  lt : ∀ W, holds W → ∀ k, blocks k → k < W.heap.size
/-- A block. -/
def boxI (b : Nat) (x : Obj) : Item where
  blocks k := k = b
  holds W := W.heap[b]? = some x
  kept W W' h _ hb := (hb b rfl).trans h
  lt W h k hk := by subst hk; exact (Array.getElem?_eq_some_iff.1 h).1
/-- A row of the law's own, from block B on. -/
def rowI (B : Nat) (T : TypeId) (sz : Nat) (A : Option Addr) (n c : Nat) (xs : List Value) : Item where
  blocks k := ∃ a, A = some a ∧ a.block = k
  holds W := W.ownsRow B T sz (.slice A n c) n xs
  kept W W' h _ hb := by
    refine ⟨h.1, h.2.imp id ?_⟩
    rintro ⟨k, cap, cur, h1, h2, h3, h4⟩
    have hA : A = some ⟨k, 0, none⟩ := by injection h1
    exact ⟨k, cap, cur, h1, h2, (hb k ⟨_, hA, rfl⟩).trans h3, h4⟩
  lt W h k hk := by
    obtain ⟨a, ha, rfl⟩ := hk
    rcases h.2 with ⟨e, _⟩ | ⟨g, cap, cur, e, hb, h5, _⟩
    · injection e with e
      rw [e] at ha
      cases ha
    · injection e with e
      rw [e] at ha
      cases ha
      exact (Array.getElem?_eq_some_iff.1 h5).1
theorem rowI_ge {B : Nat} {T : TypeId} {sz n c : Nat} {A : Option Addr} {xs : List Value} {W : World} (h : (rowI B T sz A n c xs).holds W) : ∀ k, (rowI B T sz A n c xs).blocks k → B ≤ k := by
  rintro k ⟨a, ha, rfl⟩
  rcases h.2 with ⟨e, _⟩ | ⟨g, cap, cur, e, hb, h5, _⟩
  · injection e with e
    rw [e] at ha
    cases ha
  · injection e with e
    rw [e] at ha
    cases ha
    exact hb
/-- What an object must keep. -/
structure ObjK (T : (Nat → Prop) → World → Prop) : Prop where
  lt : ∀ S W, T S W → ∀ k, S k → k < W.heap.size
  kept : ∀ S S' W W', T S W → KeptO S' W W' → (∀ k, S k → ¬ S' k) → T S W'
/-- The object T, the items beside it, all from block B on; below B nothing has changed since w0. -/
structure OX (B : Nat) (T : (Nat → Prop) → World → Prop) (items : List Item) (w0 W : World) : Prop where
  tb : ∃ S, T S W ∧ (∀ k, S k → B ≤ k) ∧ ∀ it ∈ items, ∀ k, it.blocks k → ¬ S k
  it : ∀ it ∈ items, it.holds W
  ge : ∀ it ∈ items, ∀ k, it.blocks k → B ≤ k
  be : Below B w0 W
  sz : B ≤ W.heap.size
section
variable {B : Nat} {T T' : (Nat → Prop) → World → Prop} {items items' : List Item} {w0 W W' : World}
theorem Item.keptO {it : Item} {S : Nat → Prop} (h : it.holds W) (hk : KeptO S W W') (hS : ∀ k, it.blocks k → ¬ S k) : it.holds W' :=
  it.kept W W' h hk.size fun k e => hk.block k (it.lt W h k e) (hS k e)
theorem OX.start {S : Nat → Prop} (hB : B = w0.heap.size) (t : T S W) (hs : ∀ k, S k → B ≤ k) (hb : Below B w0 W) : OX B T [] w0 W :=
  ⟨⟨S, t, hs, (fun it h => by cases h)⟩, (fun it h => by cases h), (fun it h => by cases h), hb, by have := hb.size; omega⟩
theorem OX.below (hT : ObjK T) (h : OX B T items w0 W) (hb : Below W.heap.size W W') : OX B T items w0 W' := by
  obtain ⟨S, h1, h2, h3⟩ := h.tb
  have k := KeptO.of_below (S := fun _ => False) hb
  exact ⟨⟨S, hT.kept _ _ _ _ h1 k fun _ _ => id, h2, h3⟩, fun it hi => Item.keptO (h.it it hi) k fun _ _ => id, h.ge, h.be.trans (hb.mono h.sz), Nat.le_trans h.sz hb.size⟩
theorem OX.sub (h : OX B T items w0 W) (hs : ∀ it ∈ items', it ∈ items) : OX B T items' w0 W := by
  obtain ⟨S, h1, h2, h3⟩ := h.tb
  exact ⟨⟨S, h1, h2, fun it hi => h3 it (hs it hi)⟩, fun it hi => h.it it (hs it hi), fun it hi => h.ge it (hs it hi), h.be, h.sz⟩
/-- New items. -/
theorem OX.add (hT : ObjK T) (h : OX B T items w0 W) (hb : Below W.heap.size W W') (its : List Item) (hi : ∀ it ∈ its, it.holds W' ∧ ∀ k, it.blocks k → W.heap.size ≤ k) : OX B T (its ++ items) w0 W' := by
  have h' := h.below hT hb
  obtain ⟨S, h1, h2, h3⟩ := h.tb
  have k := KeptO.of_below (S := fun _ => False) hb
  refine ⟨⟨S, hT.kept _ _ _ _ h1 k fun _ _ => id, h2, fun it hit j hj e => ?_⟩, fun it hit => ?_, fun it hit j hj => ?_, h'.be, h'.sz⟩
  · rcases List.mem_append.1 hit with e2 | e2
    · have := (hi it e2).2 j hj
      have := hT.lt _ _ h1 j e
      omega
    · exact h3 it e2 j hj e
  · rcases List.mem_append.1 hit with e2 | e2
    · exact (hi it e2).1
    · exact h'.it it e2
  · rcases List.mem_append.1 hit with e2 | e2
    · exact Nat.le_trans h.sz ((hi it e2).2 j hj)
    · exact h.ge it e2 j hj
/-- An item has been written: it, and new blocks alone. -/
theorem OX.mut (hT : ObjK T) {it : Item} (h : OX B T items w0 W) (hi : it ∈ items) (hk : KeptO it.blocks W W') (its : List Item)
    (hn : ∀ x ∈ its, x.holds W' ∧ ∀ k, x.blocks k → it.blocks k ∨ W.heap.size ≤ k) (hs : ∀ x ∈ items', x ∈ items ∧ ∀ k, x.blocks k → ¬ it.blocks k) : OX B T (its ++ items') w0 W' := by
  obtain ⟨S, h1, h2, h3⟩ := h.tb
  refine ⟨⟨S, hT.kept _ _ _ _ h1 hk fun k hS e => h3 it hi k e hS, h2, fun x hx j hj e => ?_⟩, fun x hx => ?_, fun x hx j hj => ?_, h.be.trans (hk.below (fun k e => h.ge it hi k e) h.sz), Nat.le_trans h.sz hk.size⟩
  · rcases List.mem_append.1 hx with e2 | e2
    · rcases (hn x e2).2 j hj with e3 | e3
      · exact h3 it hi j e3 e
      · have := hT.lt _ _ h1 j e
        omega
    · exact h3 x (hs x e2).1 j hj e
  · rcases List.mem_append.1 hx with e2 | e2
    · exact (hn x e2).1
    · exact Item.keptO (h.it x (hs x e2).1) hk (hs x e2).2
  · rcases List.mem_append.1 hx with e2 | e2
    · rcases (hn x e2).2 j hj with e3 | e3
      · exact h.ge it hi j e3
      · exact Nat.le_trans h.sz e3
    · exact h.ge x (hs x e2).1 j hj
/-- Behind a call of the object: its blocks, and new ones; what is handed out lies outside. -/
theorem OX.call (h : OX B T items w0 W) {S S' : Nat → Prop} (h2 : ∀ k, S k → B ≤ k) (h3 : ∀ it ∈ items, ∀ k, it.blocks k → ¬ S k) (t : T' S' W') (m : MoreQ S S' W) (kk : KeptO S W W')
    (its : List Item) (hn : ∀ x ∈ its, x.holds W' ∧ ∀ k, x.blocks k → ¬ S' k ∧ (S k ∨ W.heap.size ≤ k)) : OX B T' (its ++ items) w0 W' := by
  refine ⟨⟨S', t, fun k hk => (m k hk).elim (h2 k) fun e => Nat.le_trans h.sz e, fun x hx j hj e => ?_⟩, fun x hx => ?_, fun x hx j hj => ?_, h.be.trans (kk.below h2 h.sz), Nat.le_trans h.sz kk.size⟩
  · rcases List.mem_append.1 hx with e2 | e2
    · exact ((hn x e2).2 j hj).1 e
    · rcases m j e with e3 | e3
      · exact h3 x e2 j hj e3
      · have := x.lt W (h.it x e2) j hj
        omega
  · rcases List.mem_append.1 hx with e2 | e2
    · exact (hn x e2).1
    · exact Item.keptO (h.it x e2) kk (h3 x e2)
  · rcases List.mem_append.1 hx with e2 | e2
    · exact ((hn x e2).2 j hj).2.elim (h2 j) fun e => Nat.le_trans h.sz e
    · exact h.ge x e2 j hj
end
end Go.Proofs.Ytefodmbaknedkaa

namespace Go.Proofs.Ytefodmbaknedkaa
open Go.RowKit

/-- The view in block g, its index in block b, the identifiers v in block r. -/
structure VX (g b r : Nat) (v : List Nat) (w : World) : Prop where
  cell : w.heap[g]? = some (.cells #[.pointer (some ⟨b, 0, none⟩)] 59 (0, 0))
  ix : Ix b r v w
  gb : g ≠ b
  gr : g ≠ r
/-- The view in block g, its blocks S: it has the identifiers v. -/
def VT (g : Nat) (v : List Nat) (S : Nat → Prop) (w : World) : Prop := ∃ b r, VX g b r v w ∧ ∀ k, S k ↔ k = g ∨ k = b ∨ k = r
section
variable {g b r : Nat} {S : Nat → Prop} {v : List Nat} {w w' : World}
theorem VX.lt (h : VX g b r v w) : g < w.heap.size := (Array.getElem?_eq_some_iff.1 h.cell).1
theorem VX.below (h : VX g b r v w) (hb : Below w.heap.size w w') : VX g b r v w' := ⟨(hb.block g h.lt).trans h.cell, h.ix.below hb, h.gb, h.gr⟩
theorem VX.good (h : VX g b r v w) : goodV v := ⟨h.ix.asc, h.ix.pos⟩
theorem VX.cell0 (h : VX g b r v w) : w.cell? ⟨g, 0, none⟩ = some (.pointer (some ⟨b, 0, none⟩)) := cell_of_row w g 0 _ _ _ h.cell
theorem VT.objK (g : Nat) (v : List Nat) : ObjK (VT g v) := by
  refine ⟨fun S W ⟨b, r, h, hS⟩ k hk => ?_, fun S S' W W' ⟨b, r, h, hS⟩ hk hn => ⟨b, r, ⟨hk.heap h.cell (hn g ((hS g).2 (.inl rfl))), h.ix.keep hk.size (hk.block b h.ix.lt (hn b ((hS b).2 (.inr (.inl rfl))))) (hk.block r h.ix.ltr (hn r ((hS r).2 (.inr (.inr rfl))))), h.gb, h.gr⟩, hS⟩⟩
  rcases (hS k).1 hk with rfl | rfl | rfl
  · exact h.lt
  · exact h.ix.lt
  · exact h.ix.ltr
theorem VT.good (h : VT g v S w) : goodV v := by
  obtain ⟨b, r, h, _⟩ := h
  exact h.good
set_option maxRecDepth 100000 in
theorem vnew_any (A : Option Addr) (c : Nat) (l O : List Nat) (hl : l.length ≤ 1000) (hb : ∀ n ∈ l, n ≤ 4294967295) (hO : IsSet O l) (w : World) (hS : SlAt encU 1 w A l) :
    Calls Try.prog 10 #[.slice A l.length c] w fun e w' => ∃ g S, e = .returned (.pointer (some ⟨g, 0, none⟩)) ∧ VT g O S w' ∧ (∀ k, S k → w.heap.size ≤ k) ∧ Below w.heap.size w w' := by
  have NW := Lib.hid (new_any A c l O hl hb hO w hS)
  clear hb hO hS
  go_enter Try.func10, Try.ntmps10
  go_wp2_with fail
  refine NW.out.mono ?_
  rintro e w1 ⟨b, r, rfl, h1, h2, X, B⟩
  have HX := Lib.hid (show VX w1.heap.size b r O (w1.alloc (.cells #[.pointer (some ⟨b, 0, none⟩)] 59)) from ⟨heap_alloc_new _ _, X.out.below (below_al w1 _), by have := X.out.lt; omega, by have := X.out.ltr; omega⟩)
  have HB := Lib.hid (below_next B.out (below_al w1 (.cells #[.pointer (some ⟨b, 0, none⟩)] 59)))
  have hs := B.out.size
  clear NW
  go_wp2_with fail
  go_ret
  exact ⟨w1.heap.size, _, rfl, ⟨b, r, HX.out, fun k => Iff.rfl⟩, fun k hk => by rcases hk with rfl | rfl | rfl <;> omega, HB.out⟩
end
end Go.Proofs.Ytefodmbaknedkaa

namespace Go.Proofs.Ytefodmbaknedkaa
open Go.RowKit

section
variable {g b r : Nat} {S : Nat → Prop} {v : List Nat} {w : World}
set_option maxRecDepth 100000 in
theorem known_any (h : VX g b r v w) : Calls Try.prog 32 #[.pointer (some ⟨g, 0, none⟩)] w fun e w' => e = .returned (.pointer (some ⟨b, 0, none⟩)) ∧ w = w' := by
  have hc := h.cell0
  clear h
  go_enter Try.func32, Try.ntmps32
  go_wp2_with fail
  go_ret
  exact ⟨rfl, rfl⟩
set_option maxRecDepth 100000 in
theorem known_nil (w : World) : Calls Try.prog 32 #[.pointer none] w fun e w' => e = .returned (.pointer none) ∧ w = w' := by
  go_enter Try.func32, Try.ntmps32
  go_wp2_with fail
  go_ret
  exact ⟨rfl, rfl⟩
set_option maxRecDepth 100000 in
theorem vlen0_any (h : VX g b r v w) : Calls Try.prog 17 #[.pointer (some ⟨g, 0, none⟩)] w fun e w' => e = .returned (.int .i64 (v.length : Nat)) ∧ w = w' := by
  have KN := Lib.hid (known_any h)
  have LN := Lib.hid (ixlen_any h.ix)
  clear h
  go_enter Try.func17, Try.ntmps17
  go_wp2_with fail
  refine KN.out.mono ?_
  rintro e w1 ⟨rfl, rfl⟩
  go_wp2_with fail
  refine LN.out.mono ?_
  rintro e w1 ⟨rfl, rfl⟩
  go_wp2_with fail
  go_ret
  exact ⟨rfl, rfl⟩
set_option maxRecDepth 100000 in
theorem vlen_nil0 (w : World) : Calls Try.prog 17 #[.pointer none] w fun e w' => e = .returned (.int .i64 0) ∧ w = w' := by
  have KN := Lib.hid (known_nil w)
  have LN := Lib.hid (ixlen_nil w)
  go_enter Try.func17, Try.ntmps17
  go_wp2_with fail
  refine KN.out.mono ?_
  rintro e w1 ⟨rfl, rfl⟩
  go_wp2_with fail
  refine LN.out.mono ?_
  rintro e w1 ⟨rfl, rfl⟩
  go_wp2_with fail
  go_ret
  exact ⟨rfl, rfl⟩
set_option maxRecDepth 100000 in
theorem vseq0_any (u : Nat) (h : VX g b r v w) : Calls Try.prog 19 #[.pointer (some ⟨g, 0, none⟩), .int .u32 (u : Int)] w fun e w' => e = .returned (.int .i64 (posL v u : Nat)) ∧ Below w.heap.size w w' := by
  have KN := Lib.hid (known_any h)
  have PS := Lib.hid (pos_any u h.ix)
  clear h
  go_enter Try.func19, Try.ntmps19
  go_wp2_with fail
  refine KN.out.mono ?_
  rintro e w1 ⟨rfl, rfl⟩
  go_wp2_with fail
  refine PS.out.mono ?_
  rintro e w1 ⟨rfl, hb⟩
  have HB := Lib.hid hb
  go_wp2_with fail
  go_ret
  exact ⟨rfl, HB.out⟩
theorem vlen_any (h : VT g v S w) : Calls Try.prog 17 #[.pointer (some ⟨g, 0, none⟩)] w fun e w' => e = .returned (.int .i64 (v.length : Int)) ∧ Below w.heap.size w w' := by
  obtain ⟨b, r, h, _⟩ := h
  exact (vlen0_any h).mono fun _ _ ⟨he, hw⟩ => ⟨he, hw ▸ Below.refl _ _⟩
theorem vseq_any (u : Nat) (_hu : u ≤ 4294967295) (h : VT g v S w) : Calls Try.prog 19 #[.pointer (some ⟨g, 0, none⟩), .int .u32 (u : Int)] w fun e w' => e = .returned (.int .i64 (posL v u : Nat)) ∧ Below w.heap.size w w' := by
  obtain ⟨b, r, h, _⟩ := h
  exact vseq0_any u h
set_option maxRecDepth 100000 in
theorem vat_any (p : Int) (hp : -9223372036854775808 ≤ p ∧ p ≤ 9223372036854775807) (h : VT g v S w) :
    Calls Try.prog 18 #[.pointer (some ⟨g, 0, none⟩), .int .i64 p] w fun e w' => e = .returned (.tuple #[.int .u32 ((atL v p).1 : Nat), .bool (atL v p).2]) ∧ Below w.heap.size w w' := by
  obtain ⟨b, r, h, _⟩ := h
  have KN := Lib.hid (known_any h)
  have AT := Lib.hid (ixat_any p hp.1 hp.2 h.ix)
  have HB := Lib.hid (Below.refl w.heap.size w)
  clear h
  generalize (atL v p).1 = x at *
  generalize (atL v p).2 = y at *
  go_enter Try.func18, Try.ntmps18
  go_wp2_with fail
  refine KN.out.mono ?_
  rintro e w1 ⟨rfl, rfl⟩
  go_wp2_with fail
  refine AT.out.mono ?_
  rintro e w1 ⟨rfl, rfl⟩
  go_wp2_with fail
  go_ret2
  exact ⟨rfl, HB.out⟩
set_option maxRecDepth 100000 in
theorem vuids_any (_hv : v.length ≤ 60000) (h : VT g v S w) : Calls Try.prog 16 #[.pointer (some ⟨g, 0, none⟩)] w fun e w' => ∃ A c, e = .returned (.slice A v.length c) ∧ w'.ownsRow w.heap.size 35 1 (.slice A v.length c) v.length (flatL encU v) ∧ Below w.heap.size w w' := by
  obtain ⟨b, r, h, _⟩ := h
  have KN := Lib.hid (known_any h)
  have AL := Lib.hid (all_any (.inr ⟨rfl, h.ix⟩) h.ix.len)
  clear h
  go_enter Try.func16, Try.ntmps16
  go_wp2_with fail
  refine KN.out.mono ?_
  rintro e w1 ⟨rfl, rfl⟩
  go_wp2_with fail
  refine AL.out.mono ?_
  rintro e w1 ⟨x, rfl, ho, hb⟩
  obtain ⟨A, c, rfl⟩ := own_any ho
  have HO := Lib.hid ho
  have HB := Lib.hid hb
  clear ho hb
  go_wp2_with fail
  go_ret
  exact ⟨A, c, rfl, HO.out, HB.out⟩
theorem vlen_nil (w : World) : Calls Try.prog 17 #[.pointer none] w fun e w' => e = .returned (.int .i64 0) ∧ Below w.heap.size w w' :=
  (vlen_nil0 w).mono fun _ _ ⟨he, hw⟩ => ⟨he, hw ▸ Below.refl _ _⟩
set_option maxRecDepth 100000 in
theorem vat_nil (p : Int) (hp : -9223372036854775808 ≤ p ∧ p ≤ 9223372036854775807) (w : World) : Calls Try.prog 18 #[.pointer none, .int .i64 p] w fun e w' => e = .returned (.tuple #[.int .u32 0, .bool false]) ∧ Below w.heap.size w w' := by
  have KN := Lib.hid (known_nil w)
  have AT := Lib.hid (ixat_nil p hp.1 hp.2 w)
  have HB := Lib.hid (Below.refl w.heap.size w)
  go_enter Try.func18, Try.ntmps18
  go_wp2_with fail
  refine KN.out.mono ?_
  rintro e w1 ⟨rfl, rfl⟩
  go_wp2_with fail
  refine AT.out.mono ?_
  rintro e w1 ⟨rfl, rfl⟩
  go_wp2_with fail
  go_ret2
  exact ⟨rfl, HB.out⟩
set_option maxRecDepth 100000 in
theorem vseq_nil (u : Nat) (w : World) : Calls Try.prog 19 #[.pointer none, .int .u32 (u : Int)] w fun e w' => e = .returned (.int .i64 0) ∧ Below w.heap.size w w' := by
  have KN := Lib.hid (known_nil w)
  have PS := Lib.hid (pos_nil u w)
  go_enter Try.func19, Try.ntmps19
  go_wp2_with fail
  refine KN.out.mono ?_
  rintro e w1 ⟨rfl, rfl⟩
  go_wp2_with fail
  refine PS.out.mono ?_
  rintro e w1 ⟨rfl, hb⟩
  have HB := Lib.hid hb
  go_wp2_with fail
  go_ret
  exact ⟨rfl, HB.out⟩
set_option maxRecDepth 100000 in
theorem vuids_nil (w : World) : Calls Try.prog 16 #[.pointer none] w fun e w' => ∃ A c, e = .returned (.slice A 0 c) ∧ Below w.heap.size w w' := by
  have KN := Lib.hid (known_nil w)
  have AL := Lib.hid (all_any (g := 0) (r := 0) (l := []) (w := w) (.inl ⟨rfl, rfl⟩) (Nat.zero_le _))
  go_enter Try.func16, Try.ntmps16
  go_wp2_with fail
  refine KN.out.mono ?_
  rintro e w1 ⟨rfl, rfl⟩
  go_wp2_with fail
  refine AL.out.mono ?_
  rintro e w1 ⟨x, rfl, ho, hb⟩
  obtain ⟨A, c, rfl⟩ := own_any ho
  have HB := Lib.hid hb
  clear ho hb
  go_wp2_with fail
  go_ret
  exact ⟨A, c, rfl, HB.out⟩
end
end Go.Proofs.Ytefodmbaknedkaa
