/- The laws of layer 14: the program's table beside the reference's. -/
import Derived.Test.YtpfplniokjkcbaaL14Z
namespace Go.Proofs.Ytpfplniokjkcbaa
open Go.RowKit

/-- The program's table has L1 and q1, the reference's (block bw, row A) L2 and q2; all of them lie in blocks from B on; below B nothing has changed. Block ob holds a call. -/
structure LPo (B g bw : Nat) (A : Option Addr) (c ob : Nat) (o k : Int) (L1 : List Int) (q1 : Nat) (L2 : List Int) (q2 : Nat) (w0 W : World) : Prop where
  tb : ∃ S, LkT g S L1 q1 W ∧ (∀ j, S j → B ≤ j) ∧ ¬ S bw ∧ Out S A ∧ ¬ S ob
  rf : RefT B bw A c L2 q2 W
  op : W.heap[ob]? = some (.cells #[.int .i64 o, .int .i64 k] 32)
  nb : ob ≠ bw ∧ ¬ blkA A ob
  ge : B ≤ bw
  be : Below B w0 W
  sz : B ≤ W.heap.size
/-- Both tables have L and q. -/
structure LP (B g bw : Nat) (A : Option Addr) (c : Nat) (L : List Int) (q : Nat) (w0 W : World) : Prop where
  tb : ∃ S, LkT g S L q W ∧ (∀ j, S j → B ≤ j) ∧ ¬ S bw ∧ Out S A
  rf : RefT B bw A c L q W
  ge : B ≤ bw
  be : Below B w0 W
  sz : B ≤ W.heap.size
section
variable {B g bw c ob q q1 q2 : Nat} {A : Option Addr} {o k : Int} {L L1 L2 : List Int} {w0 W W' : World}
theorem RefT.blk_lt (h : RefT B bw A c L q W) : ∀ j, blkA A j → B ≤ j ∧ j < W.heap.size := by
  rintro j ⟨a, ha, rfl⟩
  rcases h.row.2 with ⟨h1, _⟩ | ⟨g, cap, cur, h1, hg, h3, _⟩
  · injection h1 with h1
    rw [h1] at ha
    cases ha
  · injection h1 with h1
    rw [h1] at ha
    injection ha with ha
    subst ha
    exact ⟨hg, (Array.getElem?_eq_some_iff.1 h3).1⟩
theorem LP.below (h : LP B g bw A c L q w0 W) (hb : Below W.heap.size W W') : LP B g bw A c L q w0 W' := by
  obtain ⟨S, h1, h2, h3, h4⟩ := h.tb
  exact ⟨⟨S, h1.kept (KeptO.of_below (S := fun _ => False) hb) fun _ _ => id, h2, h3, h4⟩, h.rf.below hb, h.ge, h.be.trans (hb.mono h.sz), Nat.le_trans h.sz hb.size⟩
theorem LP.op (h : LP B g bw A c L q w0 W) (o k : Int) : LPo B g bw A c W.heap.size o k L q L q w0 (W.alloc (.cells #[.int .i64 o, .int .i64 k] 32)) := by
  have h' := h.below (below_al W (.cells #[.int .i64 o, .int .i64 k] 32))
  obtain ⟨S, h1, h2, h3, h4⟩ := h.tb
  exact ⟨⟨S, h1.kept (KeptO.of_below (S := fun _ => False) (below_al W _)) fun _ _ => id, h2, h3, h4, fun e => by have := h1.lt _ e; omega⟩, h'.rf, heap_alloc_new _ _, ⟨by have := h.rf.lt; omega, fun e => by have := (h.rf.blk_lt _ e).2; omega⟩, h.ge, h'.be, h'.sz⟩
theorem LPo.below (h : LPo B g bw A c ob o k L1 q1 L2 q2 w0 W) (hb : Below W.heap.size W W') : LPo B g bw A c ob o k L1 q1 L2 q2 w0 W' := by
  obtain ⟨S, h1, h2, h3⟩ := h.tb
  exact ⟨⟨S, h1.kept (KeptO.of_below (S := fun _ => False) hb) fun _ _ => id, h2, h3⟩, h.rf.below hb, (hb.block _ (Array.getElem?_eq_some_iff.1 h.op).1).trans h.op, h.nb, h.ge, h.be.trans (hb.mono h.sz), Nat.le_trans h.sz hb.size⟩
theorem LPo.draw (h : LPo B g bw A c ob o k L1 q1 L2 q2 w0 W) : LPo B g bw A c ob o k L1 q1 L2 q2 w0 W.drew := h.below (below_drew 1)
theorem LPo.drawN (h : LPo B g bw A c ob o k L1 q1 L2 q2 w0 W) (n : Nat) : LPo B g bw A c ob o k L1 q1 L2 q2 w0 (W.drewN n) := h.below (below_drew n)
theorem LPo.drop (h : LPo B g bw A c ob o k L q L q w0 W) : LP B g bw A c L q w0 W := by
  obtain ⟨S, h1, h2, h3, h4, _⟩ := h.tb
  exact ⟨⟨S, h1, h2, h3, h4⟩, h.rf, h.ge, h.be, h.sz⟩
theorem LPo.cells (h : LPo B g bw A c ob o k L1 q1 L2 q2 w0 W) : W.cell? ⟨ob, 0, none⟩ = some (.int .i64 o) ∧ W.cell? ⟨ob, 1, none⟩ = some (.int .i64 k) := ⟨cell_of_row _ _ 0 _ _ _ h.op, cell_of_row _ _ 1 _ _ _ h.op⟩
/-- The program's call. -/
theorem LPo.prog {S S' : Nat → Prop} {L1' : List Int} {q1' : Nat} (h : LPo B g bw A c ob o k L1 q1 L2 q2 w0 W) (h2 : ∀ j, S j → B ≤ j) (h3 : ¬ S bw) (h4 : Out S A) (h5 : ¬ S ob) (t : LkT g S' L1' q1' W') (m : More S S' W) (kk : KeptO S W W') : LPo B g bw A c ob o k L1' q1' L2 q2 w0 W' := by
  have hob := (Array.getElem?_eq_some_iff.1 h.op).1
  have hbw := h.rf.lt
  refine ⟨⟨S', t, fun j hj => (m.2 j hj).elim (h2 j) fun e => Nat.le_trans h.sz e, fun e => (m.2 _ e).elim h3 fun e => by omega, fun a ha e => (m.2 _ e).elim (h4 a ha) fun e => ?_, fun e => (m.2 _ e).elim h5 fun e => by omega⟩, h.rf.keptO kk h3 h4, kk.heap h.op h5, h.nb, h.ge, h.be.trans (kk.below h2 h.sz), Nat.le_trans h.sz kk.size⟩
  have := (h.rf.blk_lt _ ⟨a, ha, rfl⟩).2
  omega
theorem LPo.acqP (h : LPo B g bw A c ob o k L1 q1 L2 q2 w0 W) (ho : -9223372036854775808 ≤ o ∧ o ≤ 9223372036854775807) (hk : -9223372036854775808 ≤ k ∧ k ≤ 9223372036854775807) (hq : q1 ≤ 1000000) :
    Calls Try.prog 15 #[.pointer (some ⟨g, 0, none⟩), .int .i64 o, .int .i64 k] W fun e w' => e = .returned (.int .i64 (acqL L1 o k).2) ∧ LPo B g bw A c ob o k (acqL L1 o k).1 (if (acqL L1 o k).2 = 0 then q1 + 1 else q1) L2 q2 w0 w' := by
  obtain ⟨S, h1, h2, h3, h4, h5⟩ := h.tb
  refine (lkacq_any o k ho hk hq h1).mono ?_
  rintro e w' ⟨S', rfl, t, m, kk⟩
  exact ⟨rfl, h.prog h2 h3 h4 h5 t m kk⟩
theorem LPo.relP (h : LPo B g bw A c ob o k L1 q1 L2 q2 w0 W) (ho : -9223372036854775808 ≤ o ∧ o ≤ 9223372036854775807) :
    Calls Try.prog 13 #[.pointer (some ⟨g, 0, none⟩), .int .i64 o] W fun e w' => e = .returned (.int .i64 ((heldL L1 o).length : Nat)) ∧ LPo B g bw A c ob o k (relL L1 o) q1 L2 q2 w0 w' := by
  obtain ⟨S, h1, h2, h3, h4, h5⟩ := h.tb
  refine (lkrel_any o ho h1).mono ?_
  rintro e w' ⟨S', rfl, t, m, kk⟩
  exact ⟨rfl, h.prog h2 h3 h4 h5 t m kk⟩
/-- The reference's call. -/
theorem LPo.refc {L2' : List Int} {q2' : Nat} (h : LPo B g bw A c ob o k L1 q1 L2 q2 w0 W) (t : RefT B bw A c L2' q2' W') (kk : KeptO (fun b => b = bw ∨ blkA A b) W W') : LPo B g bw A c ob o k L1 q1 L2' q2' w0 W' := by
  obtain ⟨S, h1, h2, h3, h4, h5⟩ := h.tb
  have hT : ∀ j, S j → ¬ (j = bw ∨ blkA A j) := fun j hj e => e.elim (fun e => h3 (e ▸ hj)) fun ⟨a, ha, e⟩ => h4 a ha (e ▸ hj)
  exact ⟨⟨S, h1.kept kk hT, h2, h3, h4, h5⟩, t, kk.heap h.op fun e => e.elim h.nb.1 h.nb.2, h.nb, h.ge, h.be.trans (kk.below (fun j e => e.elim (fun e => by have := h.ge; omega) fun e => (h.rf.blk_lt _ e).1) h.sz), Nat.le_trans h.sz kk.size⟩
theorem LPo.acqR (h : LPo B g bw A c ob o k L1 q1 L2 q2 w0 W) (hL : L2.length ≤ 1000) (hq : q2 ≤ 1000000) :
    Calls Try.prog 16 #[.pointer (some ⟨bw, 0, none⟩), .int .i64 o, .int .i64 k] W fun e w' => e = .returned (.int .i64 (acqL L2 o k).2) ∧ LPo B g bw A c ob o k L1 q1 (acqL L2 o k).1 (if (acqL L2 o k).2 = 0 then q2 + 1 else q2) w0 w' :=
  (racq14_any o k hL hq h.rf).mono fun _ _ ⟨h1, h2, h3⟩ => ⟨h1, h.refc h2 h3⟩
theorem LPo.relR (h : LPo B g bw A c ob o k L1 q1 L2 q2 w0 W) (hL : L2.length ≤ 1000) :
    Calls Try.prog 14 #[.pointer (some ⟨bw, 0, none⟩), .int .i64 o] W fun e w' => e = .returned (.int .i64 ((heldL L2 o).length : Nat)) ∧ LPo B g bw A c ob o k L1 q1 (relL L2 o) q2 w0 w' :=
  (rrel14_any o hL h.rf).mono fun _ _ ⟨h1, h2, h3⟩ => ⟨h1, h.refc h2 (h3.mono fun _ e => .inr e)⟩
theorem LP.draw (h : LP B g bw A c L q w0 W) : LP B g bw A c L q w0 W.drew := h.below (below_drew 1)
theorem LP.drawN (h : LP B g bw A c L q w0 W) (n : Nat) : LP B g bw A c L q w0 (W.drewN n) := h.below (below_drew n)
theorem LP.alloc (h : LP B g bw A c L q w0 W) (x : Obj) : LP B g bw A c L q w0 (W.alloc x) := h.below (below_al W x)
theorem LP.keep (h : LP B g bw A c L q w0 W) : W.cell? ⟨bw, 0, none⟩ = some (.slice A L.length c) ∧ W.cell? ⟨bw, 1, none⟩ = some (.int .i64 (q : Int)) ∧ LP B g bw A c L q w0 W := ⟨h.rf.cells.1, h.rf.cells.2, h⟩
theorem LP.blk (h : LP B g bw A c L q w0 W) (o : Int) (ho : -9223372036854775808 ≤ o ∧ o ≤ 9223372036854775807) (A2 : Option Addr) (c2 : Nat) (l : List Int) (hl : l.length ≤ 1000) (hx : ∀ x ∈ l, -9223372036854775808 ≤ x ∧ x ≤ 9223372036854775807) (hS : SlAt encI 1 W A2 l) :
    Calls Try.prog 25 #[.pointer (some ⟨g, 0, none⟩), .int .i64 o, .slice A2 l.length c2] W fun e w' => e = .returned (.bool (blkL L o l)) ∧ LP B g bw A c L q w0 w' := by
  obtain ⟨S, h1, -⟩ := h.tb
  exact (lkblk_any o ho A2 c2 l hl hx hS h1).mono fun _ _ ⟨h2, h3⟩ => ⟨h2, h.below h3⟩
theorem LP.blkR (h : LP B g bw A c L q w0 W) (o : Int) (hL : L.length ≤ 1000) (A2 : Option Addr) (c2 : Nat) (l : List Int) (hl : l.length ≤ 1000) (hS : SlAt encI 1 W A2 l) :
    Calls Try.prog 26 #[.agg #[.slice A L.length c, .int .i64 (q : Int)], .int .i64 o, .slice A2 l.length c2] W fun e w' => e = .returned (.bool (blkL L o l)) ∧ LP B g bw A c L q w0 w' :=
  (rblocked14_any (c := c) (q := (q : Int)) o A2 c2 l hL hl h.rf.sl hS).mono fun _ _ ⟨h2, h3⟩ => ⟨h2, h.below h3⟩
theorem LP.ali (h : LP B g bw A c L q w0 W) : Calls Try.prog 9 #[] W fun e w' => e = .returned (.bool true) ∧ LP B g bw A c L q w0 w' :=
  (alive14_any W).mono fun _ _ ⟨h2, h3⟩ => ⟨h2, h.below h3⟩
theorem LPo.keep (h : LPo B g bw A c ob o k L q L q w0 W) : W.cell? ⟨bw, 0, none⟩ = some (.slice A L.length c) ∧ W.cell? ⟨bw, 1, none⟩ = some (.int .i64 (q : Int)) ∧ W.cell? ⟨ob, 0, none⟩ = some (.int .i64 o) ∧ W.cell? ⟨ob, 1, none⟩ = some (.int .i64 k) ∧ LPo B g bw A c ob o k L q L q w0 W := ⟨h.rf.cells.1, h.rf.cells.2, h.cells.1, h.cells.2, h⟩
/-- Both tables made. -/
theorem LP.start {S : Nat → Prop} {n : Nat} {w1 w2 : World} (hB : B = w0.heap.size) (ht : LkT g S (List.replicate n (-1)) 0 w1) (hs : ∀ j, S j → B ≤ j) (hb1 : Below B w0 w1) (hr : w2.ownsRow w1.heap.size 3 1 (.slice A n c) n (flatL encI (List.replicate n (-1)))) (hb2 : Below w1.heap.size w1 w2) :
    LP B g w2.heap.size A c (List.replicate n (-1)) 0 w0 (w2.alloc (.cells #[.slice A n c, .int .i64 0] 28)) := by
  have hl : (List.replicate n (-1 : Int)).length = n := List.length_replicate
  have hs1 : B ≤ w1.heap.size := by have := hb1.size; omega
  have ba := below_al w2 (.cells #[.slice A n c, .int .i64 0] 28)
  have hS1 := ht.lt
  have t2 := (ht.kept (KeptO.of_below (S := fun _ => False) hb2) fun _ _ => id).kept (KeptO.of_below (S := fun _ => False) ba) fun _ _ => id
  have hr2 := own_below hr ba
  refine ⟨⟨S, t2, hs, fun e => by have := hS1 _ e; have := hb2.size; omega, fun a ha e => ?_⟩, ⟨by rw [hl]; exact heap_alloc_new _ _, by rw [hl]; exact own_mono hr2 hs1⟩, by have := hb2.size; omega, (hb1.trans (hb2.mono hs1)).trans (ba.mono (by have := hb2.size; omega)), by have := hb2.size; have := ba.size; omega⟩
  have := hS1 _ e
  rcases hr.2 with ⟨h1, _⟩ | ⟨g', cap, cur, h1, hg, h3, _⟩
  · injection h1 with h1
    rw [h1] at ha
    cases ha
  · injection h1 with h1
    rw [h1] at ha
    injection ha with ha
    subst ha
    simp only at this
    omega
end
end Go.Proofs.Ytpfplniokjkcbaa
