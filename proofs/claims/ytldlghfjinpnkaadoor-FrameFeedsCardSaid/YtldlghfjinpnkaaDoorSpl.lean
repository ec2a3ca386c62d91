/- frame: the splitter's block; what the world owes it. Plain facts, no walk. -/
import Derived.Test.YtldlghfjinpnkaaDoorFrMath
import Derived.Test.YtldlghfjinpnkaaDoorBRow
namespace Go.Proofs.YtldlghfjinpnkaaDoor
open Go.RowKit

/-- What the world owes, all of it below block B. -/
structure EnvB (B : Nat) (w : World) : Prop where
  env : Env w
  mx : ∃ m, w.cell? ⟨0, 0, none⟩ = some (.int .i64 m)
  lt : 3 < B ∧ 1 < B ∧ 2 < B ∧ 0 < B
theorem EnvB.below {B : Nat} {w w' : World} (h : EnvB B w) (hb : Below B w w') : EnvB B w' := by
  obtain ⟨⟨t, ⟨a, p, s⟩, ⟨b, q, r⟩⟩, ⟨m, hm⟩, l1, l2, l3, l4⟩ := h
  exact ⟨⟨var?_below hb globTab l1 t, ⟨a, p, var?_below hb globSyn l2 s⟩, ⟨b, q, var?_below hb globRng l3 r⟩⟩, ⟨m, (hb.cell (p := ⟨0, 0, none⟩) l4).trans hm⟩, l1, l2, l3, l4⟩
theorem below_of_grown {B : Nat} {w w' : World} {r : Nat} (h : w.grownBy w' (some r)) (hr : B ≤ r) (hB : B ≤ w.heap.size) : Below B w w' :=
  ⟨h.os, h.tape, h.output, h.size, fun k hk => h.block k (by omega) (fun e => by injection e; omega)⟩
theorem grown_of_below {w w' : World} {row : Option Nat} (h : Below w.heap.size w w') : w.grownBy w' row := ⟨h.os, h.tape, h.output, h.size, fun k hk _ => h.block k hk⟩
theorem grown_t {a b c : World} {r : Nat} (h : a.grownBy b (some r)) (k : b.grownBy c (some r)) : a.grownBy c (some r) := h.trans k
theorem EnvB.grown {B : Nat} {w w' : World} {r : Nat} (h : EnvB B w) (hg : w.grownBy w' (some r)) (hr : B ≤ r) (hB : B ≤ w.heap.size) : EnvB B w' := h.below (below_of_grown hg hr hB)

/-- The function value of a state. -/
def stFn (f bs : Nat) : Value := .func (.func f) #[.pointer (some ⟨bs, 0, none⟩)] #[]

/-- The splitter's block. -/
structure Raw (bs : Nat) (A : Option Addr) (n c : Nat) (ln at_ dr : Int) (fn : Value) (w : World) : Prop where
  blk : w.heap[bs]? = some (.cells #[.slice A n c, .int .i64 ln, .int .i64 at_, .int .i64 dr, fn] 49 (0, 0))
section
variable {bs n c : Nat} {A : Option Addr} {ln at_ dr : Int} {fn : Value} {w w' : World}
theorem Raw.lt (h : Raw bs A n c ln at_ dr fn w) : bs < w.heap.size := (Array.getElem?_eq_some_iff.1 h.blk).1
theorem Raw.grow (h : Raw bs A n c ln at_ dr fn w) (hb : Below w.heap.size w w') : Raw bs A n c ln at_ dr fn w' := ⟨(hb.block bs h.lt).trans h.blk⟩
theorem Raw.grown {row : Option Nat} (h : Raw bs A n c ln at_ dr fn w) (hb : w.grownBy w' row) (hne : some bs ≠ row) : Raw bs A n c ln at_ dr fn w' := ⟨(hb.block bs h.lt hne).trans h.blk⟩
theorem Raw.c0 (h : Raw bs A n c ln at_ dr fn w) : w.cell? ⟨bs, 0, none⟩ = some (.slice A n c) := cell_of_row w bs 0 _ _ _ h.blk
theorem Raw.c1 (h : Raw bs A n c ln at_ dr fn w) : w.cell? ⟨bs, 1, none⟩ = some (.int .i64 ln) := cell_of_row w bs 1 _ _ _ h.blk
theorem Raw.c2 (h : Raw bs A n c ln at_ dr fn w) : w.cell? ⟨bs, 2, none⟩ = some (.int .i64 at_) := cell_of_row w bs 2 _ _ _ h.blk
theorem Raw.c3 (h : Raw bs A n c ln at_ dr fn w) : w.cell? ⟨bs, 3, none⟩ = some (.int .i64 dr) := cell_of_row w bs 3 _ _ _ h.blk
theorem Raw.c4 (h : Raw bs A n c ln at_ dr fn w) : w.cell? ⟨bs, 4, none⟩ = some fn := cell_of_row w bs 4 _ _ _ h.blk
theorem Raw.fz (h : Raw bs A n c ln at_ dr fn w) (i : Nat) : w.frozen? ⟨bs, i, none⟩ = false := Joins.unfrozen_of_block h.blk i
theorem Raw.set0 (h : Raw bs A n c ln at_ dr fn w) (A' : Option Addr) (n' c' : Nat) : Raw bs A' n' c' ln at_ dr fn (w.setCell ⟨bs, 0, none⟩ (.slice A' n' c')) := ⟨by rw [Joins.block_setCell h.blk]; rfl⟩
theorem Raw.set1 (h : Raw bs A n c ln at_ dr fn w) (x : Int) : Raw bs A n c x at_ dr fn (w.setCell ⟨bs, 1, none⟩ (.int .i64 x)) := ⟨by rw [Joins.block_setCell h.blk]; rfl⟩
theorem Raw.set2 (h : Raw bs A n c ln at_ dr fn w) (x : Int) : Raw bs A n c ln x dr fn (w.setCell ⟨bs, 2, none⟩ (.int .i64 x)) := ⟨by rw [Joins.block_setCell h.blk]; rfl⟩
theorem Raw.set3 (h : Raw bs A n c ln at_ dr fn w) (x : Int) : Raw bs A n c ln at_ x fn (w.setCell ⟨bs, 3, none⟩ (.int .i64 x)) := ⟨by rw [Joins.block_setCell h.blk]; rfl⟩
theorem Raw.set4 (h : Raw bs A n c ln at_ dr fn w) (x : Value) : Raw bs A n c ln at_ dr x (w.setCell ⟨bs, 4, none⟩ x) := ⟨by rw [Joins.block_setCell h.blk]; rfl⟩
theorem Raw.drewN (h : Raw bs A n c ln at_ dr fn w) (k : Nat) : Raw bs A n c ln at_ dr fn (w.drewN k) := ⟨h.blk⟩
theorem Raw.drew (h : Raw bs A n c ln at_ dr fn w) : Raw bs A n c ln at_ dr fn w.drew := ⟨h.blk⟩
theorem Raw.cast (h : Raw bs A n c ln at_ dr fn w) {x y z : Int} {m : Nat} (h1 : ln = x) (h2 : at_ = y) (h3 : dr = z) (hn : n = m) : Raw bs A m c x y z fn w := by subst h1 h2 h3 hn; exact h
end

/-- How far the search has come. -/
def Scan (R : List UInt8) (k a : Nat) : Prop := k ≤ a ∧ a ≤ R.length ∧ ∀ j, k ≤ j → j < a → j + 1 < R.length ∧ ¬ Mark R j
theorem Scan.endOf {R : List UInt8} {k a : Nat} (h : Scan R k a) : endOf R k = endOf R a := endOf_skip h.1 fun j h1 h2 => (h.2.2 j h1 h2).2

/-- The splitter in block bs, its buffer in block g: the bytes R wait, and a line of them begins at k. -/
structure Spl (B bs g : Nat) (R : List UInt8) (k : Nat) (w : World) : Prop where
  lo : B ≤ bs ∧ B ≤ g ∧ g ≠ bs
  hi : B ≤ w.heap.size
  env : EnvB B w
  st : ∃ A c, BRow g w A c R ∧ ((∃ a : Nat, Scan R k a ∧ Raw bs A R.length c (k : Int) (a : Int) 0 (stFn 19 bs) w) ∨ (∃ ln : Int, Raw bs A R.length c ln (k : Int) 0 (stFn 36 bs) w))
theorem belDraw {B : Nat} {a x : World} (h : Below B a x) : Below B a x.drew := h.trans (Below.refl B x).drew
theorem grown_set {w w' : World} {b : Nat} (h : w.grownBy w' (some b)) (i : Nat) (v : Value) : w.grownBy (w'.setCell ⟨b, i, none⟩ v) (some b) := h.trans (grown_setCell w' b i v)
end Go.Proofs.YtldlghfjinpnkaaDoor
