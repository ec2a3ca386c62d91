/- The law FrameFeeds: a slice of slices of bytes, which rows lie apart, the walk. -/
import Derived.Test.YtldlghfjinpnkaaDoorBy
import Derived.Test.YtldlghfjinpnkaaDoorL5N
namespace Go.Proofs.YtldlghfjinpnkaaDoor
open Go.RowKit

/-- The slice of address A and capacity c reads as the rows ls; all of it lies below block B. -/
structure PtAt (B : Nat) (w : World) (A : Option Addr) (c : Nat) (ls : List (List UInt8)) : Prop where
  le : ls.length ≤ c
  lies : ls = [] ∨ ∃ b off, A = some ⟨b, off, none⟩ ∧ b < B ∧ b < w.heap.size ∧ ∀ j (h : j < ls.length), ls[j].length ≤ maxLen ∧ ∃ Aj cj, w.cell? ⟨b, off + j, none⟩ = some (.slice Aj ls[j].length cj) ∧ ByAt B w Aj cj ls[j]
section
variable {B c : Nat} {w w' : World} {A : Option Addr} {ls : List (List UInt8)}
theorem PtAt.below (h : PtAt B w A c ls) (hb : Below B w w') : PtAt B w' A c ls := by
  refine ⟨h.le, ?_⟩
  rcases h.lies with h0 | ⟨b, off, hA, h1, h2, hc⟩
  · exact .inl h0
  · refine .inr ⟨b, off, hA, h1, Nat.lt_of_lt_of_le h2 hb.size, fun j hj => ?_⟩
    obtain ⟨hm, Aj, cj, q1, q2⟩ := hc j hj
    exact ⟨hm, Aj, cj, (hb.cell (p := ⟨b, off + j, none⟩) h1).trans q1, q2.below hb⟩
theorem PtAt.at (h : PtAt B w A c ls) {j : Nat} (hj : j < ls.length) : ∃ b off Aj cj, A = some ⟨b, off, none⟩ ∧ w.cell? ⟨b, off + j, none⟩ = some (.slice Aj ls[j].length cj) ∧ ByAt B w Aj cj ls[j] ∧ ls[j].length ≤ maxLen := by
  rcases h.lies with rfl | ⟨b, off, hA, _, _, hc⟩
  · simp at hj
  · obtain ⟨hm, Aj, cj, q1, q2⟩ := hc j hj
    exact ⟨b, off, Aj, cj, hA, q1, q2, hm⟩
end
end Go.Proofs.YtldlghfjinpnkaaDoor
namespace Go.Proofs.YtldlghfjinpnkaaDoor
open Go.RowKit

/-- A block of bytes. -/
def U8 (w : World) (g : Nat) : Prop := ∃ cs, w.heap[g]? = some (.cells cs 5 (0, 0))
theorem U8.lt {w : World} {g : Nat} (h : U8 w g) : g < w.heap.size := by
  obtain ⟨cs, hh⟩ := h
  exact (Array.getElem?_eq_some_iff.1 hh).1
theorem U8.grown {w w' : World} {g : Nat} {row : Option Nat} (h : U8 w g) (hg : w.grownBy w' row) (hne : some g ≠ row) : U8 w' g := by
  obtain ⟨cs, hh⟩ := h
  exact ⟨cs, (hg.block g (Array.getElem?_eq_some_iff.1 hh).1 hne).trans hh⟩
theorem U8.keeps {w w' : World} {g : Nat} (h : U8 w g) (hk : KeepsT 5 w w') : U8 w' g := by
  obtain ⟨cs, hh⟩ := h
  exact ⟨cs, hk.2 _ _ _ hh⟩
/-- A row of frames stands beside. -/
theorem own_u8 {w w' : World} {base n r : Nat} {v : Value} {xs : List Value} (h : w.ownsRow base 42 2 v n xs) (hg : w.grownBy w' (some r)) (hr : w.heap.size ≤ r ∨ U8 w r) : w'.ownsRow base 42 2 v n xs := by
  rcases hr with h0 | ⟨cs, hh⟩
  · exact own_below h (below_of_grown hg h0 (Nat.le_refl _))
  · exact h.kept hg (own_ne h hh (by decide))
/-- The splitter with a nil buffer. -/
structure Spl0 (B bs : Nat) (R : List UInt8) (k : Nat) (w : World) : Prop where
  lo : B ≤ bs
  hi : B ≤ w.heap.size
  env : EnvB B w
  nil : R = []
  st : (∃ a : Nat, Scan R k a ∧ Raw bs none R.length 0 (k : Int) (a : Int) 0 (stFn 19 bs) w) ∨ (∃ ln : Int, Raw bs none R.length 0 ln (k : Int) 0 (stFn 36 bs) w)
theorem Spl0.all {B bs k : Nat} {R : List UInt8} {w : World} (h : Spl0 B bs R k w) (g : Nat) (h1 : B ≤ g) (h2 : g ≠ bs) : Spl B bs g R k w :=
  ⟨⟨h.lo, h1, h2⟩, h.hi, h.env, none, 0, h.nil ▸ BRow.nil g w, h.st⟩
theorem Spl.part {B bs g k : Nat} {R : List UInt8} {w : World} (h : Spl B bs g R k w) : Spl0 B bs R k w ∨ U8 w g := by
  obtain ⟨lo, hi, env, A, c, hb, st⟩ := h
  rcases hb.lies with ⟨rfl, rfl⟩ | ⟨off, cs, _, hh, _⟩
  · exact .inl ⟨lo.1, hi, env, List.eq_nil_of_length_eq_zero (by have := hb.le; omega), st⟩
  · exact .inr ⟨cs, hh⟩
/-- The splitter; its buffer nil or in a row that is there. -/
def SpO (B bs : Nat) (gS : Option Nat) (R : List UInt8) (k : Nat) (w : World) : Prop :=
  match gS with
  | none => Spl0 B bs R k w
  | some g => Spl B bs g R k w ∧ U8 w g
/-- A slice of bytes; nil or in a row that is there. -/
def RwO (gL : Option Nat) (w : World) (A : Option Addr) (c : Nat) (l : List UInt8) : Prop :=
  match gL with
  | none => A = none ∧ c = 0 ∧ l = []
  | some g => BRow g w A c l ∧ U8 w g
section
variable {B bs k g c : Nat} {R l : List UInt8} {w w' : World} {gS gL row : Option Nat} {A : Option Addr}
theorem Spl.spO (h : Spl B bs g R k w) : ∃ gS', SpO B bs gS' R k w ∧ (gS' = none ∨ gS' = some g) := by
  rcases h.part with h0 | h0
  · exact ⟨none, h0, .inl rfl⟩
  · exact ⟨some g, ⟨h, h0⟩, .inr rfl⟩
theorem BRow.rwO (h : BRow g w A c l) : ∃ gL', RwO gL' w A c l ∧ (gL' = none ∨ gL' = some g) := by
  rcases h.lies with ⟨h0, h1⟩ | ⟨off, cs, _, hh, _⟩
  · exact ⟨none, ⟨h0, h1, List.eq_nil_of_length_eq_zero (by have := h.le; omega)⟩, .inl rfl⟩
  · exact ⟨some g, ⟨h, ⟨cs, hh⟩⟩, .inr rfl⟩
/-- A block to take for the buffer's. -/
theorem SpO.take (h : SpO B bs gS R k w) (hbs : bs < w.heap.size) : ∃ g, Spl B bs g R k w ∧ ((gS = none ∧ w.heap.size ≤ g) ∨ (gS = some g ∧ U8 w g)) := by
  cases gS with
  | none => exact ⟨w.heap.size, Spl0.all h _ (Spl0.hi h) (by omega), .inl ⟨rfl, Nat.le_refl _⟩⟩
  | some g => exact ⟨g, h.1, .inr ⟨rfl, h.2⟩⟩
theorem RwO.take (h : RwO gL w A c l) : ∃ g, BRow g w A c l ∧ ((gL = none ∧ w.heap.size ≤ g) ∨ (gL = some g ∧ U8 w g)) := by
  cases gL with
  | none =>
    obtain ⟨rfl, rfl, rfl⟩ := h
    exact ⟨w.heap.size, BRow.nil _ _, .inl ⟨rfl, Nat.le_refl _⟩⟩
  | some g => exact ⟨g, h.1, .inr ⟨rfl, h.2⟩⟩
theorem RwO.by (h : RwO gL w A c l) : ByAt w.heap.size w A c l := by
  obtain ⟨g, h1, _⟩ := h.take
  exact h1.by
theorem RwO.grown (h : RwO gL w A c l) (hg : w.grownBy w' row) (hne : gL = none ∨ gL ≠ row) : RwO gL w' A c l := by
  cases gL with
  | none => exact h
  | some g => exact ⟨h.1.grown hg (by rcases hne with h | h; cases h; exact h), h.2.grown hg (by rcases hne with h | h; cases h; exact h)⟩
theorem RwO.grow (h : RwO gL w A c l) (hb : Below w.heap.size w w') : RwO gL w' A c l := by
  cases gL with
  | none => exact h
  | some g => exact ⟨h.1.grow hb, h.2.keeps (keeps_below hb)⟩
theorem RwO.keeps (h : RwO gL w A c l) (hk : KeepsT 5 w w') : RwO gL w' A c l := by
  cases gL with
  | none => exact h
  | some g => exact ⟨h.1.keeps hk, h.2.keeps hk⟩
theorem Spl0.below (h : Spl0 B bs R k w) (hB : Below B w w') (hb : w'.heap[bs]? = w.heap[bs]?) : Spl0 B bs R k w' := by
  refine ⟨h.lo, Nat.le_trans h.hi hB.size, h.env.below hB, h.nil, ?_⟩
  rcases h.st with ⟨a, h1, h2⟩ | ⟨ln, h2⟩
  · exact .inl ⟨a, h1, ⟨hb.trans h2.blk⟩⟩
  · exact .inr ⟨ln, ⟨hb.trans h2.blk⟩⟩
theorem Spl0.lt (h : Spl0 B bs R k w) : bs < w.heap.size := by
  rcases h.st with ⟨a, h1, h2⟩ | ⟨ln, h2⟩ <;> exact h2.lt
theorem SpO.bs_lt (h : SpO B bs gS R k w) : bs < w.heap.size := by
  cases gS with
  | none => exact Spl0.lt h
  | some g =>
    obtain ⟨_, _, _, _, _, _, st⟩ := h.1
    rcases st with ⟨a, h1, h2⟩ | ⟨ln, h2⟩ <;> exact h2.lt
theorem SpO.hi (h : SpO B bs gS R k w) : B ≤ w.heap.size := by
  cases gS with
  | none => exact Spl0.hi h
  | some g => exact h.1.hi
theorem SpO.ne (h : SpO B bs gS R k w) : gS ≠ some bs := by
  cases gS with
  | none => simp
  | some g => exact fun e => h.1.lo.2.2 (Option.some.inj e)
theorem SpO.ge (h : SpO B bs gS R k w) {x : Nat} (hx : gS = some x) : B ≤ x ∧ x < w.heap.size := by
  subst hx
  exact ⟨h.1.lo.2.1, h.2.lt⟩
theorem SpO.rowed {r : Nat} (h : SpO B bs gS R k w) (hg : w.grownBy w' (some r)) (h1 : r ≠ bs) (h2 : gS ≠ some r) (hr : B ≤ r) : SpO B bs gS R k w' := by
  cases gS with
  | none => exact Spl0.below h (below_of_grown hg hr (Spl0.hi h)) (hg.block bs (Spl0.lt h) (fun e => h1 (Option.some.inj e).symm))
  | some g => exact ⟨h.1.row hg h1 (fun _ _ _ e => h2 (by rw [e])) hr, h.2.grown hg h2⟩
theorem SpO.grow (h : SpO B bs gS R k w) (hb : Below w.heap.size w w') : SpO B bs gS R k w' := by
  have hx := h.bs_lt
  have hy := h.hi
  cases gS with
  | none => exact Spl0.below h (hb.mono hy) (hb.block bs hx)
  | some g => exact ⟨h.1.grow hb, h.2.keeps (keeps_below hb)⟩
theorem SpO.blk (h : SpO B bs gS R k w) : ∃ cs, w.heap[bs]? = some (.cells cs 49 (0, 0)) := by
  cases gS with
  | none => rcases Spl0.st h with ⟨a, h1, h2⟩ | ⟨ln, h2⟩ <;> exact ⟨_, h2.blk⟩
  | some g =>
    obtain ⟨_, _, _, _, _, _, st⟩ := h.1
    rcases st with ⟨a, h1, h2⟩ | ⟨ln, h2⟩ <;> exact ⟨_, h2.blk⟩
theorem SpO.keeps (h : SpO B bs gS R k w) (h5 : KeepsT 5 w w') (h49 : KeepsT 49 w w') (hB : Below B w w') : SpO B bs gS R k w' := by
  obtain ⟨cs, hb⟩ := h.blk
  cases gS with
  | none => exact Spl0.below h hB ((h49.2 _ _ _ hb).trans hb.symm)
  | some g => exact ⟨h.1.keeps h5 h49 (fun i hi => hB.block i hi), h.2.keeps h5⟩
/-- Frames' rows: where they are there, they fit; a nil one has no row. -/
theorem FrsAt.re {P Q : Nat → Prop} {vs : List (Int × Value)} {fs : List Fr} (h : FrsAt P w vs fs) (d : Nat) (hd : Q d) (hq : ∀ b, P b → b < w.heap.size → Q b) : FrsAt Q w vs fs :=
  h.map fun _ _ ⟨A, c, g, h1, h2, h3⟩ => by
    rcases h2.lies with ⟨ha, hc⟩ | ⟨off, cs, _, hh, _⟩
    · exact ⟨A, c, d, h1, ⟨h2.le, h2.cap, .inl ⟨ha, hc⟩⟩, hd⟩
    · exact ⟨A, c, g, h1, h2, hq g h3 (Array.getElem?_eq_some_iff.1 hh).1⟩
theorem FrsAt.grownR {P : Nat → Prop} {vs : List (Int × Value)} {fs : List Fr} (h : FrsAt P w vs fs) (hg : w.grownBy w' row) (hne : ∀ b cs, P b → w.heap[b]? = some (.cells cs 5 (0, 0)) → some b ≠ row) : FrsAt P w' vs fs :=
  h.map fun _ _ ⟨A, c, g, h1, h2, h3⟩ => by
    rcases h2.lies with ⟨ha, hc⟩ | ⟨off, cs, _, hh, _⟩
    · exact ⟨A, c, g, h1, ⟨h2.le, h2.cap, .inl ⟨ha, hc⟩⟩, h3⟩
    · exact ⟨A, c, g, h1, h2.grown hg (hne g cs h3 hh), h3⟩
end

/-- What holds in the law's loop: the splitter in block bs; the bytes l in a row of their own; frames' data: all of them lie apart, and apart from row X. -/
structure FI (B bs : Nat) (gS gL X : Option Nat) (R : List UInt8) (k : Nat) (A : Option Addr) (c : Nat) (l : List UInt8) (vs : List (Int × Value)) (fs : List Fr) (w : World) : Prop where
  sp : SpO B bs gS R k w
  rw : RwO gL w A c l
  sep : gS = none ∨ gS ≠ gL
  nl : gL ≠ some bs
  gl : ∀ x, gL = some x → B ≤ x ∧ x < w.heap.size
  xs : ∀ x, X = some x → B ≤ x ∧ x < w.heap.size ∧ x ≠ bs ∧ gS ≠ some x ∧ gL ≠ some x
  fr : FrsAt (fun b => some b ≠ gS ∧ some b ≠ gL ∧ some b ≠ X) w vs fs
section
variable {B bs k c : Nat} {R l p : List UInt8} {w w' : World} {gS gL X : Option Nat} {A : Option Addr} {vs us : List (Int × Value)} {fs gs : List Fr}
theorem FI.grow (h : FI B bs gS gL X R k A c l vs fs w) (hb : Below w.heap.size w w') : FI B bs gS gL X R k A c l vs fs w' :=
  ⟨h.sp.grow hb, h.rw.grow hb, h.sep, h.nl, fun x hx => ⟨(h.gl x hx).1, Nat.lt_of_lt_of_le (h.gl x hx).2 hb.size⟩, fun x hx => ⟨(h.xs x hx).1, Nat.lt_of_lt_of_le (h.xs x hx).2.1 hb.size, (h.xs x hx).2.2⟩, h.fr.keeps (keeps_below hb)⟩
/-- A new row stands beside. -/
theorem FI.beside {g9 : Nat} (h : FI B bs gS gL none R k A c l vs fs w) (hb : Below w.heap.size w w') (h9 : w.heap.size ≤ g9) (h9' : g9 < w'.heap.size) : FI B bs gS gL (some g9) R k A c l vs fs w' := by
  have hbs := h.sp.bs_lt
  have hB := h.sp.hi
  have h1 := h.grow hb
  refine ⟨h1.sp, h1.rw, h1.sep, h1.nl, h1.gl, fun x hx => ?_, ?_⟩
  · obtain rfl := Option.some.inj hx
    exact ⟨by omega, h9', by omega, fun e => by have := (h.sp.ge e).2; omega, fun e => by have := (h.gl _ e).2; omega⟩
  · exact (h.fr.re (Q := fun b => some b ≠ gS ∧ some b ≠ gL ∧ some b ≠ some g9) bs ⟨h.sp.ne.symm, h.nl.symm, by simp; omega⟩ (fun b hb hlt => ⟨hb.1, hb.2.1, by simp; omega⟩)).keeps (keeps_below hb)
/-- The row that a copy lies in. -/
theorem FI.own {g9 c9 : Nat} {A9 : Option Addr} (h : FI B bs gS gL none R k A c l vs fs w) (hb : Below w.heap.size w w') (h9 : w.heap.size ≤ g9) (hr : BRow g9 w' A9 c9 p) : ∃ X, FI B bs gS gL X R k A c l vs fs w' ∧ RwO X w' A9 c9 p := by
  obtain ⟨X, hX, h0 | h0⟩ := hr.rwO
  · subst h0
    exact ⟨none, h.grow hb, hX⟩
  · subst h0
    exact ⟨some g9, h.beside hb h9 hX.2.lt, hX⟩
theorem FI.feedX {g c9 : Nat} {A9 : Option Addr} {q : List UInt8} (h : FI B bs gS gL X R k A c l vs fs w) (hg : (gS = none ∧ w.heap.size ≤ g) ∨ (gS = some g ∧ U8 w g)) (hp : FdPost B bs g R p k w w') (h9 : RwO X w A9 c9 q) : RwO X w' A9 c9 q := by
  obtain ⟨g', w1, hg', hs, hr1, hr2⟩ := hp
  cases X with
  | none => exact h9
  | some x =>
    obtain ⟨a1, a2, a3, a4, a5⟩ := h.xs x rfl
    refine (h9.grown hr1 (.inr ?_)).grown hr2 (.inr fun e => a3 (Option.some.inj e))
    rcases hg with ⟨_, h1⟩ | ⟨h1, _⟩
    · exact fun e => by have := Option.some.inj e; omega
    · exact fun e => a4 (h1.trans e.symm)
theorem FI.feedO {g n : Nat} {v : Value} {xs : List Value} {base : Nat} (h : FI B bs gS gL X R k A c l vs fs w) (hg : (gS = none ∧ w.heap.size ≤ g) ∨ (gS = some g ∧ U8 w g)) (hp : FdPost B bs g R p k w w') (ho : w.ownsRow base 42 2 v n xs) : w'.ownsRow base 42 2 v n xs := by
  obtain ⟨g', w1, hg', hs, hr1, hr2⟩ := hp
  have hbs := h.sp.bs_lt
  obtain ⟨cb, hcb⟩ := h.sp.blk
  have hgb : g ≠ bs := by
    rcases hg with ⟨_, h1⟩ | ⟨h1, _⟩
    · omega
    · exact fun e => h.sp.ne (by rw [h1, e])
  have o1 := own_u8 ho hr1 (hg.imp (·.2) (·.2))
  have hcb1 := (hr1.block bs hbs (fun e => hgb (Option.some.inj e).symm)).trans hcb
  exact o1.kept hr2 (own_ne o1 hcb1 (by decide))
theorem FI.feedB {g : Nat} (h : FI B bs gS gL X R k A c l vs fs w) (hg : (gS = none ∧ w.heap.size ≤ g) ∨ (gS = some g ∧ U8 w g)) (hp : FdPost B bs g R p k w w') {w0 : World} (hB : Below B w0 w) : Below B w0 w' := by
  obtain ⟨g', w1, hg', hs, hr1, hr2⟩ := hp
  have hi := h.sp.hi
  refine grown_below (grown_below hB hr1 hi ?_) hr2 (Nat.le_trans hi hr1.size) hs.lo.1
  rcases hg with ⟨_, h1⟩ | ⟨h1, _⟩
  · omega
  · exact (h.sp.ge h1).1
/-- The splitter is fed. -/
theorem FI.feed {g : Nat} (h : FI B bs gS gL X R k A c l vs fs w) (hg : (gS = none ∧ w.heap.size ≤ g) ∨ (gS = some g ∧ U8 w g)) (hp : FdPost B bs g R p k w w') : ∃ gS', FI B bs gS' gL X (R ++ p) k A c l vs fs w' := by
  obtain ⟨g', w1, hg', hs, hr1, hr2⟩ := hp
  have hbs := h.sp.bs_lt
  obtain ⟨cb, hcb⟩ := h.sp.blk
  obtain ⟨gS', hs', hS⟩ := hs.spO
  have hgb : g ≠ bs := by
    rcases hg with ⟨_, h1⟩ | ⟨h1, _⟩
    · omega
    · exact fun e => h.sp.ne (by rw [h1, e])
  have hlg : gL = none ∨ gL ≠ some g := by
    rcases hg with ⟨_, h1⟩ | ⟨h1, _⟩
    · exact .inr fun e => by have := (h.gl _ e).2; omega
    · rcases h.sep with h2 | h2
      · rw [h1] at h2; cases h2
      · exact .inr fun e => h2 (h1.trans e.symm)
  have hnew : ∀ x, x < w.heap.size → gS ≠ some x → gS' ≠ some x := fun x hx hne e => by
    rcases hS with h0 | h0
    · rw [h0] at e; cases e
    · rw [h0] at e
      obtain rfl := Option.some.inj e
      rcases hg' with rfl | h1
      · rcases hg with ⟨_, h1⟩ | ⟨h1, _⟩
        · omega
        · exact hne h1
      · omega
  have hz := Nat.le_trans hr1.size hr2.size
  have hcb1 := (hr1.block bs hbs (fun e => hgb (Option.some.inj e).symm)).trans hcb
  refine ⟨gS', hs', (h.rw.grown hr1 hlg).grown hr2 (.inr h.nl), ?_, h.nl, fun x hx => ⟨(h.gl x hx).1, Nat.lt_of_lt_of_le (h.gl x hx).2 hz⟩, fun x hx => ?_, ?_⟩
  · cases hL : gL with
    | none =>
      rcases hS with h0 | h0
      · exact .inl h0
      · exact .inr (by rw [h0]; simp)
    | some x =>
      refine .inr (hnew x (h.gl x hL).2 fun e => ?_)
      rcases h.sep with h2 | h2
      · rw [h2] at e; cases e
      · exact h2 (e.trans hL.symm)
  · obtain ⟨a1, a2, a3, a4, a5⟩ := h.xs x hx
    exact ⟨a1, Nat.lt_of_lt_of_le a2 hz, a3, hnew x a2 a4, a5⟩
  · have f1 := h.fr.re (Q := fun b => some b ≠ gS ∧ some b ≠ gS' ∧ some b ≠ gL ∧ some b ≠ X) bs ⟨h.sp.ne.symm, hs'.ne.symm, h.nl.symm, fun e => (h.xs bs e.symm).2.2.1 rfl⟩ (fun b hb hlt => ⟨hb.1, (hnew b hlt hb.1.symm).symm, hb.2.1, hb.2.2⟩)
    have f2 := f1.grownR hr1 (fun b cs hb hh e => by
      obtain rfl := Option.some.inj e
      rcases hg with ⟨_, h1⟩ | ⟨h1, _⟩
      · have := (Array.getElem?_eq_some_iff.1 hh).1
        omega
      · exact hb.1 h1.symm)
    have f3 := f2.grownR hr2 (fun b cs hb hh e => by
      obtain rfl := Option.some.inj e
      rw [hcb1] at hh
      simp at hh)
    exact f3.imp fun _ hb => ⟨hb.2.1, hb.2.2.1, hb.2.2.2⟩
/-- The row beside is written. -/
theorem FI.put {r : Nat} (h : FI B bs gS gL (some r) R k A c l vs fs w) (hg : w.grownBy w' (some r)) : FI B bs gS gL none R k A c l vs fs w' := by
  obtain ⟨a1, a2, a3, a4, a5⟩ := h.xs r rfl
  exact ⟨h.sp.rowed hg a3 a4 a1, h.rw.grown hg (.inr a5), h.sep, h.nl, fun x hx => ⟨(h.gl x hx).1, Nat.lt_of_lt_of_le (h.gl x hx).2 hg.size⟩, fun _ hx => (by cases hx),
    (h.fr.grownR hg (fun _ _ hb _ => hb.2.2)).imp fun _ hb => ⟨hb.1, hb.2.1, by simp⟩⟩
theorem FI.putX {r : Nat} (h : FI B bs gS gL X R k A c l vs fs w) (hx : (X = none ∧ w.heap.size ≤ r) ∨ (X = some r ∧ U8 w r)) (hg : w.grownBy w' (some r)) : FI B bs gS gL none R k A c l vs fs w' ∧ B ≤ r := by
  have hi := h.sp.hi
  rcases hx with ⟨rfl, h1⟩ | ⟨rfl, _⟩
  · exact ⟨h.grow (below_of_grown hg h1 (Nat.le_refl _)), by omega⟩
  · exact ⟨h.put hg, (h.xs r rfl).1⟩
/-- The bytes grow. -/
theorem FI.app {g g' c' : Nat} {A' : Option Addr} (h : FI B bs gS gL none R k A c l vs fs w) (hg : (gL = none ∧ w.heap.size ≤ g) ∨ (gL = some g ∧ U8 w g)) (hg' : g' = g ∨ w.heap.size ≤ g') (hb : BRow g' w' A' c' (l ++ p)) (hr : w.grownBy w' (some g)) : ∃ gL', FI B bs gS gL' none R k A' c' (l ++ p) vs fs w' := by
  have hbs := h.sp.bs_lt
  have hB := h.sp.hi
  obtain ⟨gL', hb', hL⟩ := hb.rwO
  have hgb : g ≠ bs := by
    rcases hg with ⟨_, h1⟩ | ⟨h1, _⟩
    · omega
    · exact fun e => h.nl (by rw [h1, e])
  have hgB : B ≤ g := by
    rcases hg with ⟨_, h1⟩ | ⟨h1, _⟩
    · omega
    · exact (h.gl g h1).1
  have hsg : gS ≠ some g := by
    rcases hg with ⟨_, h1⟩ | ⟨h1, _⟩
    · exact fun e => by have := (h.sp.ge e).2; omega
    · rcases h.sep with h2 | h2
      · rw [h2]; simp
      · rw [← h1]; exact h2
  have hnew : ∀ x, x < w.heap.size → gL ≠ some x → gL' ≠ some x := fun x hx hne e => by
    rcases hL with h0 | h0
    · rw [h0] at e; cases e
    · rw [h0] at e
      obtain rfl := Option.some.inj e
      rcases hg' with rfl | h1
      · rcases hg with ⟨_, h1⟩ | ⟨h1, _⟩
        · omega
        · exact hne h1
      · omega
  refine ⟨gL', h.sp.rowed hr hgb hsg hgB, hb', ?_, hnew bs hbs h.nl, fun x hx => ?_, fun _ hx => (by cases hx), ?_⟩
  · cases hS : gS with
    | none => exact .inl rfl
    | some x =>
      refine .inr (hnew x (h.sp.ge hS).2 fun e => ?_).symm
      rcases h.sep with h2 | h2
      · rw [h2] at hS; cases hS
      · exact h2 (hS.trans e.symm)
  · subst hx
    rcases hL with h0 | h0
    · cases h0
    · obtain rfl := Option.some.inj h0
      refine ⟨?_, hb'.2.lt⟩
      rcases hg' with rfl | h1 <;> omega
  · have f1 := h.fr.re (Q := fun b => some b ≠ gL ∧ some b ≠ gL' ∧ some b ≠ gS) bs ⟨h.nl.symm, (hnew bs hbs h.nl).symm, h.sp.ne.symm⟩ (fun b hb hlt => ⟨hb.2.1, (hnew b hlt hb.2.1.symm).symm, hb.1⟩)
    have f2 := f1.grownR hr (fun b cs hb hh e => by
      obtain rfl := Option.some.inj e
      rcases hg with ⟨_, h1⟩ | ⟨h1, _⟩
      · have := (Array.getElem?_eq_some_iff.1 hh).1
        omega
      · exact hb.1 h1.symm)
    exact f2.imp fun _ hb => ⟨hb.2.2, hb.2.1, by simp⟩
/-- The splitter is drained. -/
theorem FI.drain {g k' : Nat} {R' : List UInt8} (h : FI B bs gS gL none R k A c l vs fs w) (hg : (gS = none ∧ w.heap.size ≤ g) ∨ (gS = some g ∧ U8 w g)) (hf : FrsAt (w.heap.size ≤ ·) w' us gs) (hn : Runs R k gs R' k') (hs : Spl B bs g R' k' w') (hr : w.grownBy w' (some bs)) :
    ∃ gS', FI B bs gS' gL none R' k' A c l (vs ++ us) (fs ++ gs) w' := by
  have hbs := h.sp.bs_lt
  obtain ⟨cb, hcb⟩ := h.sp.blk
  obtain ⟨gS', hs', hS⟩ := hs.spO
  have hnew : ∀ x, x < w.heap.size → gS ≠ some x → gS' ≠ some x := fun x hx hne e => by
    rcases hS with h0 | h0
    · rw [h0] at e; cases e
    · rw [h0] at e
      obtain rfl := Option.some.inj e
      rcases hg with ⟨_, h1⟩ | ⟨h1, _⟩
      · omega
      · exact hne h1
  refine ⟨gS', hs', h.rw.grown hr (.inr h.nl), ?_, h.nl, fun x hx => ⟨(h.gl x hx).1, Nat.lt_of_lt_of_le (h.gl x hx).2 hr.size⟩, fun _ hx => (by cases hx), ?_⟩
  · cases hL : gL with
    | none =>
      rcases hS with h0 | h0
      · exact .inl h0
      · exact .inr (by rw [h0]; simp)
    | some x =>
      refine .inr (hnew x (h.gl x hL).2 fun e => ?_)
      rcases h.sep with h2 | h2
      · rw [h2] at e; cases e
      · exact h2 (e.trans hL.symm)
  · have f1 := h.fr.re (Q := fun b => some b ≠ gS' ∧ some b ≠ gL) bs ⟨hs'.ne.symm, h.nl.symm⟩ (fun b hb hlt => ⟨(hnew b hlt hb.1.symm).symm, hb.2.1⟩)
    have f2 := f1.grownR hr (fun b cs hb hh e => by
      obtain rfl := Option.some.inj e
      rw [hcb] at hh
      simp at hh)
    refine (f2.imp fun _ hb => ⟨hb.1, hb.2, by simp⟩).append ?_
    rcases hg with ⟨h0, h1⟩ | ⟨h0, h1⟩
    · subst h0
      have hR := Spl0.nil h.sp
      cases hn with
      | nil => cases hf; exact .nil
      | cons hst _ =>
        have := (stepF_lt hst).1
        rw [hR] at this
        simp at this
    · have h1 := h1.lt
      refine hf.imp fun b hb => ⟨fun e => ?_, fun e => ?_, by simp⟩
      · rcases hS with h2 | h2
        · rw [h2] at e; cases e
        · rw [h2] at e
          obtain rfl := Option.some.inj e
          exact absurd hb (by omega)
      · have := (h.gl b e.symm).2
        exact absurd hb (by omega)
/-- A row of another type grows. -/
theorem FI.keeps (h : FI B bs gS gL none R k A c l vs fs w) (h5 : KeepsT 5 w w') (h49 : KeepsT 49 w w') (hB : Below B w w') : FI B bs gS gL none R k A c l vs fs w' :=
  ⟨h.sp.keeps h5 h49 hB, h.rw.keeps h5, h.sep, h.nl, fun x hx => ⟨(h.gl x hx).1, Nat.lt_of_lt_of_le (h.gl x hx).2 h5.1⟩, fun _ hx => (by cases hx), h.fr.keeps h5⟩
end
end Go.Proofs.YtldlghfjinpnkaaDoor
namespace Go.Proofs.YtldlghfjinpnkaaDoor
open Go.RowKit

theorem undP : Tryd.prog.underlying 22 = some (.slice 26) := by kernel_rfl

set_option maxRecDepth 100000 in
set_option maxHeartbeats 4000000 in
theorem frameFeeds_any (A0 : Option Addr) (c0 : Nat) (ls : List (List UInt8)) (hl0 : ls.length ≤ maxLen) (hrow : ∀ l ∈ ls, l.length ≤ 4611686018427387904) (W : World) (henv : EnvB W.heap.size W) (hP : PtAt W.heap.size W A0 c0 ls) :
    Calls Tryd.prog 3 #[.slice A0 ls.length c0] W fun e W' => e = .returned (.bool true) ∧ Below W.heap.size W W' := by
  obtain ⟨i0, hi, hz0, hz1, hz2⟩ := info_parts infoF4
  have hz1' := hz1
  have AL := Lib.hid (fun (X : World) (hX : Below W.heap.size W X) => alive5_any X (henv.step hX))
  have HP := Lib.hid hP
  have HE := Lib.hid henv
  have HROW := Lib.hid hrow
  unfold maxLen at hl0
  clear hP henv hrow hz1
  by_cases g0 : 60 < ls.length
  · have e0 : decide (60 < ls.length) = true := by simpa using g0
    have e1 : decide ((60 : Int) < (ls.length : Int)) = true := by simp; omega
    have AL0 := Lib.hid (AL.out W (Below.refl _ _))
    clear AL HP HE HROW
    generalize ls.length = n0 at *
    go_enter Tryd.func3, Tryd.ntmps3
    go_wp2_with fail
    refine AL0.out.mono ?_
    rintro e w1 ⟨rfl, hb⟩
    go_wp2_with fail
    go_ret
    exact ⟨rfl, hb⟩
  · have e0 : decide (60 < ls.length) = false := by simpa using g0
    have e1 : decide ((60 : Int) < (ls.length : Int)) = false := by simp; omega
    have NW := Lib.hid (new_any W.heap.size W (Nat.le_refl _) HE.out)
    obtain ⟨n0, hn0⟩ : ∃ n0, ls.length = n0 := ⟨_, rfl⟩
    rw [hn0] at e0 e1 g0 ⊢
    have HN0 := Lib.hid hn0
    clear hn0 hl0
    go_enter Tryd.func3, Tryd.ntmps3
    go_wp2_with fail
    refine NW.out.mono ?_
    rintro e w1 ⟨rfl, hs1, hb1, hz1⟩
    have HS1 := Lib.hid hs1
    have HB1 := Lib.hid hb1
    clear hs1 hb1 NW
    go_wp2_with fail
    go_loopw [4, 5, 21] (fun va vg i wr => ∃ (j : Nat) (gS gL : Option Nat) (R : List UInt8) (k : Nat) (Aa : Option Addr) (ca na : Nat) (al : List UInt8) (Ag : Option Addr) (cg nf : Nat) (vs : List (Int × Value)) (fs : List Fr),
      j ≤ n0 ∧ i = .int .i64 (j : Int) ∧ va = .slice Aa na ca ∧ vg = .slice Ag nf cg ∧ na ≤ 3000 ∧ Hid (al.length = na) ∧ Hid (fs.length = nf) ∧
      Hid (FI W.heap.size W.heap.size gS gL none R k Aa ca al vs fs wr) ∧ Hid (Runs al 0 fs R k) ∧ Hid (Done R k) ∧ Hid (wr.ownsRow W.heap.size 42 2 (.slice Ag nf cg) nf (flatL enc2 vs)) ∧ Hid (Below W.heap.size W wr)) (fun _ _ i _ => n0 - (intOf i).toNat)
    case atStart =>
      obtain ⟨gS, hsp, hgS⟩ := HS1.out.spO
      refine ⟨0, gS, none, [], 0, none, 0, 0, [], none, 0, 0, [], [], Nat.zero_le _, rfl, rfl, rfl, Nat.zero_le _, rfl, rfl, ⟨hsp, ⟨rfl, rfl, rfl⟩, ?_, by simp, fun _ hx => (by cases hx), fun _ hx => (by cases hx), .nil⟩, .nil _ _, endOf_past (by decide), World.ownsRow_nil _ _ _ _, HB1.out⟩
      rcases hgS with h | h
      · exact .inl h
      · exact .inr (by rw [h]; simp)
    case round =>
      obtain ⟨j, gS, gL, R, k, Aa, ca, na, al, Ag, cg, nf, vs, fs, hj, rfl, rfl, rfl, hna, HNA, HNF, HFI, HRN, HDN, HOG, HB⟩ := hrel
      by_cases hlt : j < n0
      · have hjl : j < ls.length := by rw [HN0.out]; exact hlt
        obtain ⟨b, off, Aj, cj, hA0, hcellW, hby, hm9⟩ := HP.out.at hjl
        have hcell := (HB.out.cell (p := ⟨b, off + j, none⟩) (World.block_lt_of_cell? W ⟨b, off + j, none⟩ hcellW)).trans hcellW
        clear hcellW
        have hm62 := HROW.out ls[j] (List.getElem_mem _)
        subst hA0
        have HBY := Lib.hid hby
        obtain ⟨p, hp⟩ : ∃ p, ls[j] = p := ⟨_, rfl⟩
        rw [hp] at hcell HBY hm62
        obtain ⟨m, hm⟩ : ∃ m, p.length = m := ⟨_, rfl⟩
        rw [hm] at hcell hm62
        have HM := Lib.hid hm
        clear hby hm9 hp hm hjl
        by_cases g3 : 3000 < na + m
        · have e3 : decide (3000 < na + m) = true := by simpa using g3
          have e4 : decide ((3000 : Int) < (na : Int) + (m : Int)) = true := by simp; omega
          have AL3 := Lib.hid (AL.out wr HB.out)
          go_wp2_with fail
          refine AL3.out.mono ?_
          rintro e w2 ⟨rfl, hb⟩
          go_wp2_with fail
          go_ret
          exact ⟨rfl, below_next HB.out hb⟩
        · have e3 : decide (3000 < na + m) = false := by simpa using g3
          have e4 : decide ((3000 : Int) < (na : Int) + (m : Int)) = false := by simp; omega
          obtain ⟨A9, c9, w2, g9, hr9, hg9, hb9, hbl9⟩ := dup_run wr 26 _ Aj cj m p (HBY.out.below HB.out) HM.out (by omega)
          have HR9 := Lib.hid hr9
          obtain ⟨X, hfi2, hrw2⟩ := HFI.out.own hbl9 hg9 hb9
          have hO2 := own_below HOG.out hbl9
          have HB2 := Lib.hid (below_next HB.out (hbl9.mono (Nat.le_refl _)))
          obtain ⟨g, hsg, hgg⟩ := hfi2.sp.take hfi2.sp.bs_lt
          have hRle : R.length ≤ 3000 := by
            have := HRN.out.len.2.1
            have := HNA.out
            omega
          have FD := Lib.hid (feed_any W.heap.size W.heap.size g R k p m HM.out (by omega) w2 hsg hfi2.sp.bs_lt w2.heap.size c9 A9 hrw2.by)
          have HFI2 := Lib.hid hfi2
          have HRW2 := Lib.hid hrw2
          have HO2 := Lib.hid hO2
          have HGG := Lib.hid hgg
          clear hr9 hg9 hb9 hbl9 hfi2 hrw2 hO2 hsg hgg HFI HOG HB
          go_wp2_with (at_builtin; refine Lib.wpList_append_run_sl _ rfl (.tmp 32) (.tmp 33) 26 rfl _ _ rfl rfl HR9.out ?_)
          refine FD.out.mono ?_
          rintro e w3 ⟨rfl, hfd⟩
          obtain ⟨gS3, hfi3⟩ := HFI2.out.feed HGG.out hfd
          have hrw3 := HFI2.out.feedX HGG.out hfd HRW2.out
          have HO3 := Lib.hid (HFI2.out.feedO HGG.out hfd HO2.out)
          have HB3 := Lib.hid (HFI2.out.feedB HGG.out hfd HB2.out)
          obtain ⟨g9, hbr9, hx9⟩ := hrw3.take
          have HFI3 := Lib.hid hfi3
          have HBR := Lib.hid hbr9
          have HX9 := Lib.hid hx9
          clear hfd hfi3 hrw3 hbr9 hx9 HFI2 HRW2 HO2 HGG HB2 FD HR9
          go_wp2_with fail
          go_loopw [40] (fun i wr => ∃ q : Nat, q ≤ m ∧ i = .int .i64 (q : Int) ∧ Hid (∀ y (h : y < p.length), q ≤ y → ∀ off, A9 = some ⟨g9, off, none⟩ → wr.cell? ⟨g9, off + y, none⟩ = some (.int .u8 (p[y].toNat : Int))) ∧ Hid (∀ cs fr, w3.heap[g9]? = some (.cells cs 5 fr) → ∃ cs', wr.heap[g9]? = some (.cells cs' 5 fr)) ∧ Hid (w3.grownBy wr (some g9))) (fun i _ => m - (intOf i).toNat)
          case atStart =>
            refine ⟨0, Nat.zero_le _, rfl, fun q hq _ off hA => ?_, fun cs fr h => ⟨cs, h⟩, World.grownBy.refl _ _⟩
            rcases HBR.out.lies with ⟨h0, h1⟩ | ⟨off2, cs, hA2, _, _, hc⟩
            · have := HBR.out.le
              omega
            · rw [hA2] at hA
              simp only [Option.some.injEq, Addr.mk.injEq, and_true, true_and] at hA
              subst hA
              exact hc q hq
          case round =>
            obtain ⟨q, hq, rfl, hC, hK, hG⟩ := hrel
            by_cases hql : q < m
            · have hqd : q < p.length := by rw [HM.out]; exact hql
              obtain ⟨off9, hoff⟩ := HBR.out.some_of (by omega)
              obtain ⟨cs, hcs⟩ : ∃ cs, w3.heap[g9]? = some (.cells cs 5 (0, 0)) := by
                have h := HBR.out
                rw [hoff] at h
                exact brow_blk h
              obtain ⟨cs2, hcs2⟩ := hK.out cs _ hcs
              have hqc := hC.out q hqd (Nat.le_refl _) off9 hoff
              have hf := Joins.unfrozen_of_block hcs2 (off9 + q)
              have HCS2 := Lib.hid hcs2
              have HOFF := Lib.hid hoff
              clear hcs hcs2
              subst hoff
              generalize p[q].toNat = y at hqc
              go_wp2_with fail
              go_roundw
              case rel =>
                refine ⟨q + 1, by omega, by go_num, fun q2 hq2 hjq off' hA => ?_, fun cs fr h => ?_, grown_set hG.out _ _⟩
                · have e := HOFF.out.symm.trans hA
                  simp only [Option.some.injEq, Addr.mk.injEq, and_true, true_and] at e
                  subst e
                  rw [World.cell?_setCell_other _ _ _ _ (by intro e; injection e; omega)]
                  exact hC.out q2 hq2 (by omega) off9 hA
                · obtain ⟨cs', h'⟩ := hK.out cs fr h
                  exact ⟨_, Joins.block_setCell h' _⟩
              case measure => simp [intOf]; omega
            · obtain rfl : q = m := by omega
              obtain ⟨hfi4, hB9⟩ := HFI3.out.putX HX9.out hG.out
              have hO4 := own_u8 HO3.out hG.out (HX9.out.imp (·.2) (·.2))
              have hB4 := grown_below HB3.out hG.out HFI3.out.sp.hi hB9
              obtain ⟨gA, hba, hga⟩ := hfi4.rw.take
              obtain ⟨A5, c5, w5, g5, hr5, hg5, hb5, hgr5⟩ := append_brow wr 26 gA Aa ca na al hba HNA.out W.heap.size Aj cj q p (HBY.out.below hB4) HM.out (by omega)
              obtain ⟨gL5, hfi5⟩ := hfi4.app hga hg5 hb5 hgr5
              have hgAB : W.heap.size ≤ gA := by
                rcases hga with ⟨_, h1⟩ | ⟨h1, _⟩
                · exact Nat.le_trans hB4.size h1
                · exact (hfi4.gl gA h1).1
              have HO5 := Lib.hid (own_u8 hO4 hgr5 (hga.imp (·.2) (·.2)))
              have HB5 := Lib.hid (grown_below hB4 hgr5 hfi4.sp.hi hgAB)
              obtain ⟨nb, hnb⟩ : ∃ nb, na + q = nb := ⟨_, rfl⟩
              rw [hnb] at hr5
              have hnb3 : nb ≤ 3000 := by omega
              have hlen5 : (al ++ p).length = nb := by rw [List.length_append, HNA.out, HM.out, hnb]
              have HNB := Lib.hid hlen5
              have hlenR : (R ++ p).length ≤ 3000 ∧ (R ++ p).length ≤ nb := by
                have := HRN.out.len.2.1
                have := HNA.out
                have := HM.out
                rw [List.length_append]
                omega
              obtain ⟨g6, hsp6, hg6⟩ := hfi5.sp.take hfi5.sp.bs_lt
              have DR : Hid (Calls Tryd.prog 11 #[.pointer (some ⟨W.heap.size, 0, none⟩), .int .i64 ((nb : Int) + 1)] w5 (DrPost W.heap.size W.heap.size g6 (R ++ p) k w5)) := Lib.hid (drain_any W.heap.size W.heap.size g6 (nb + 1) (R ++ p) k (by omega) (by omega) (by omega) (fun _ _ _ hr _ => by have := hr.len.2.1; omega) w5 hsp6 hfi5.sp.bs_lt)
              have HR5 := Lib.hid hr5
              have HFI5 := Lib.hid hfi5
              have HG6 := Lib.hid hg6
              have HLR := Lib.hid hlenR
              clear hfi4 hB9 hO4 hB4 hba hga hr5 hg5 hb5 hgr5 hfi5 hgAB hlen5 hlenR hsp6 hg6 HFI3 HBR HX9 HO3 HB3 hC hK hG hnb
              go_wp2_with (at_builtin; refine Lib.wpList_append_run_sl _ rfl (.tmp 50) (.tmp 51) 26 rfl _ _ rfl rfl HR5.out ?_)
              refine DR.out.mono ?_
              rintro e w6 ⟨v6, us, gs, R6, k6, rfl, ho6, hf6, hr6, hd6, hs6, hgr6⟩
              obtain ⟨A6, c6, hv6⟩ := own_any ho6
              subst hv6
              have hl6 := hf6.len
              rw [← hl6] at ho6
              obtain ⟨cb, hcb⟩ := HFI5.out.sp.blk
              obtain ⟨gS6, hfi6⟩ := HFI5.out.drain HG6.out hf6 hr6 hs6 hgr6
              have HO6 := Lib.hid (HO5.out.kept hgr6 (own_ne HO5.out hcb (by decide)))
              have HB6 := Lib.hid (grown_below HB5.out hgr6 HFI5.out.sp.hi (Nat.le_refl _))
              have HRN6 := Lib.hid ((HRN.out.append p).trans hr6)
              have HD6 := Lib.hid hd6
              have HSl := Lib.hid (SlAt.of_own enc2_len ho6)
              have HONE := Lib.hid (one_flat2 hf6)
              have HFI6 := Lib.hid hfi6
              have HL6 := Lib.hid hl6
              have hcnt : (fs ++ gs).length ≤ 3000 := by
                have := HRN6.out.len.1
                have := HNB.out
                omega
              have hsum : nf + us.length = (fs ++ gs).length := by rw [List.length_append, HNF.out, HL6.out]
              have hus : nf + us.length ≤ 3000 := by omega
              have hR6 : R6.length ≤ 3000 := by
                have := HRN6.out.len.2.1
                have := HNB.out
                omega
              have HSUM := Lib.hid hsum
              have hzz : W.heap.size ≤ w6.heap.size := HB6.out.size
              rw [← HL6.out]
              clear ho6 hf6 hr6 hd6 hs6 hgr6 hl6 hcb hfi6 hsum HFI5 HO5 HB5 HG6 HR5 DR
              go_wp2_with (at_builtin; refine wpList_append_sl _ rfl (.tmp 53) (.tmp 58) 27 rfl W.heap.size 42 i0 _ 32 Tryd.underlying27 hi hz0 hz1' hz2 rfl (by decide) _ nf (flatL enc2 vs) rfl HO6.out _ us _ rfl enc2_len HSl.out HONE.out (by simp only [maxLen]; omega) (by omega) hzz ?_; intro v7 w7 hv7 hg7)
              have h5 := keeps_row (T := 5) HO6.out (by decide) hg7
              have h49 := keeps_row (T := 49) HO6.out (by decide) hg7
              have hB67 : Below W.heap.size w6 w7 := (Below.refl _ w6).grown hg7 hzz (fun i hi2 => (HO6.out.lt i hi2).1)
              have hfi7 := HFI6.out.keeps h5 h49 hB67
              have HB7 := Lib.hid (HB6.out.trans hB67)
              obtain ⟨n7, hn7⟩ : ∃ n7, nf + us.length = n7 := ⟨_, rfl⟩
              rw [hn7] at hv7
              rw [hn7] at hus
              have hn7' : (fs ++ gs).length = n7 := by rw [← HSUM.out, hn7]
              have HN7 := Lib.hid hn7'
              obtain ⟨A7, c7, hv⟩ := own_any hv7
              subst hv
              have RS := Lib.hid (refSplit_any w7.heap.size c5 nb A5 (al ++ p) HNB.out (by omega) w7 hfi7.rw.by)
              have HFI7 := Lib.hid hfi7
              have HO7 := Lib.hid (show w7.ownsRow W.heap.size 42 2 (.slice A7 n7 c7) n7 (flatL enc2 (vs ++ us)) by rw [flatL_append]; exact hv7)
              have hdl : ∀ f ∈ fs ++ gs, f.data.length ≤ 1000000 := fun f hf => by
                have := HRN6.out.len.2.2 f hf
                have := HNB.out
                omega
              have HDL := Lib.hid hdl
              clear h5 h49 hB67 hfi7 hn7 hn7' hv7 hg7 HFI6 HO6 HB6 HSl HONE hcnt hzz hdl
              go_wp2_with fail
              refine RS.out.mono ?_
              rintro e w8 hp
              obtain ⟨v8, xs8, he, ho8, hf8, hb8⟩ := split_is hp HRN6.out HD6.out
              subst he
              obtain ⟨A8, c8, hv8⟩ := own_any ho8
              subst hv8
              have hfi8 := HFI7.out.grow hb8
              have HQ8 := Lib.hid (FsAt.of_own ho8 hf8)
              have HO8 := Lib.hid (own_below HO7.out hb8)
              have HQ7 := Lib.hid (FsAt.of_own (show w8.ownsRow W.heap.size 42 2 (.slice A7 n7 c7) (fs ++ gs).length (flatL enc2 (vs ++ us)) by rw [HN7.out]; exact HO8.out) (hfi8.fr.imp (Q := fun _ => True) (fun _ _ => trivial)))
              have SM := Lib.hid (same_any (fs ++ gs) n7 HN7.out (by omega) HDL.out w8 A7 A8 c7 c8 (vs ++ us) xs8 HQ7.out HQ8.out)
              have HB8 := Lib.hid (below_next HB7.out hb8)
              have HFI8 := Lib.hid hfi8
              rw [HN7.out]
              clear hp ho8 hf8 hb8 hfi8 HQ8 HQ7 HO7 HFI7 HB7 RS
              obtain ⟨nr, hnr⟩ : ∃ nr, R6.length = nr := ⟨_, rfl⟩
              rw [hnr] at hR6 ⊢
              have HNR := Lib.hid hnr
              clear hnr
              go_wp2_with fail
              refine SM.out.mono ?_
              rintro e w9 ⟨rfl, hb9⟩
              have hfi9 := HFI8.out.grow hb9
              have HO9 := Lib.hid (own_below HO8.out hb9)
              have HB9 := Lib.hid (below_next HB8.out hb9)
              obtain ⟨g10, hsp10, _⟩ := hfi9.sp.take hfi9.sp.bs_lt
              have LF := left_any W.heap.size W.heap.size g10 k6 R6 (by rw [HNR.out]; omega) w9 hsp10
              rw [HNR.out] at LF
              have LF := Lib.hid LF
              have HFI9 := Lib.hid hfi9
              clear hb9 hfi9 hsp10 SM HO8 HB8 HFI8
              go_wp2_with fail
              refine LF.out.mono ?_
              rintro e w10 ⟨rfl, hb10⟩
              have HF10 := Lib.hid (HFI9.out.grow hb10)
              have HO10 := Lib.hid (own_below HO9.out hb10)
              have HB10 := Lib.hid (below_next HB9.out hb10)
              clear hb10 LF HO9 HB9 HFI9
              go_wp2_with fail
              go_roundw
              case rel => exact ⟨j + 1, gS6, gL5, R6, k6, A5, c5, nb, al ++ p, A7, c7, n7, vs ++ us, fs ++ gs, by omega, by go_num, rfl, rfl, hnb3, HNB, HN7, HF10, HRN6, HD6, HO10, HB10⟩
              case measure => simp [intOf]; omega
      · obtain rfl : j = n0 := by omega
        have AL3 := Lib.hid (AL.out wr HB.out)
        go_wp2_with fail
        refine AL3.out.mono ?_
        rintro e w2 ⟨rfl, hb⟩
        go_wp2_with fail
        go_ret
        exact ⟨rfl, below_next HB.out hb⟩
end Go.Proofs.YtldlghfjinpnkaaDoor
