/- A mailbox's messages: change. By wip/gen/mkst16c.py. -/
import Derived.Test.YthdbbappojkmoaaGreatHu
import Derived.Deep.QuietTactic
import Derived.BigQuiet
import Derived.Deep.Cut
namespace Go.Proofs.YthdbbappojkmoaaGreat
open Go.RowKit Go.Maps

section
variable {g gt gc gi mb : Nat} {T : Int} {L : List MI} {U : List Nat} {S S1 S2 S3 : Nat → Prop} {st : StP} {w : World}
set_option maxRecDepth 100000 in
set_option maxHeartbeats 4000000 in
theorem mchg_no (u : Nat) (hu : u ≤ 4294967295) (mode : Int) (hm : -9223372036854775808 ≤ mode ∧ mode ≤ 9223372036854775807) (f : Nat) (hf : f ≤ 255) (L' : List MI) (av : Nat) (cd : Int) (ms' : List MsgP) (hfl : flM L u mode f = (L', (av : Int), cd))
    (hc : cd ≠ 0) (hX : SX g gt gc gi mb T L U S1 S2 S3 st w) (hG : SG st T L) :
    Calls Tryz.prog 36 #[.pointer (some ⟨g, 0, none⟩), .int .u32 (u : Int), .int .i64 mode, .int .u8 (f : Int)] w fun e w' => e = .returned (.tuple #[.int .u8 (av : Int), .bool false, .int .i64 cd]) ∧ ∃ S1', SX g gt gc gi mb T L' U S1' S2 S3 { st with ms := ms' } w' ∧ MoreQ (SS g gc S1 S2 S3) (SS g gc S1' S2 S3) w ∧ KeptO (SS g gc S1 S2 S3) w w' := by
  have hll := hG.llen
  have hlen := hG.len
  have hcap := hG.cap
  obtain ⟨c0, c1, c2, c3, c4⟩ := hX.cells
  have GT := Lib.hid (tget_any u hu hX.tb (by omega))
  have HLL := Lib.hid (show L.length ≤ 100000 by omega)
  have HX := Lib.hid hX
  have HG := Lib.hid hG
  have HU := Lib.hid hu
  have HM := Lib.hid hm
  have HF := Lib.hid hf
  have HFL := Lib.hid hfl
  have e1 : (cd == 0) = false := by simpa using hc
  clear hc
  clear hX hG c0 c1 c2 c4 hlen hcap hll hu hm hf hfl
  go_enter Tryz.func36, Tryz.ntmps36
  go_wp2_with fail
  refine GT.out.mono ?_
  rintro e w1 ⟨y, S1a, rfl, hsm, -, -, t1, t2, t3⟩
  obtain ⟨y1, y2, y3⟩ := HX.out.tab t1 t2.2 t3 st.ms
  have hyf : y.f = ((getM L u).getD ⟨0, 0, none, 0, []⟩).f := (sameM_iff.1 hsm).2.1
  have hb := below_al w1 (.cells #[.int .u32 (y.u : Int), .int .u8 (y.f : Int), .slice y.A y.b.length y.k] 52)
  have hn := heap_alloc_new w1 (.cells #[.int .u32 (y.u : Int), .int .u8 (y.f : Int), .slice y.A y.b.length y.k] 52)
  have y1' := y1.below hb
  obtain ⟨d0, d1, d2, d3, d4⟩ := y1'.cells
  have FC := tflags_any u mode f HU.out HM.out.1 HM.out.2 HF.out y1'.tb HLL.out
  rw [HFL.out] at FC
  have hkb : ∀ k, S1a k → k ≠ w1.heap.size := fun k e => by have := t1.lt k e; omega
  have HKB := Lib.hid hkb
  have HN := Lib.hid hn
  have FC := Lib.hid FC
  have Y1 := Lib.hid y1'
  have Y2 := Lib.hid y2
  have Y3 := Lib.hid (y3.then_below hb)
  clear GT hsm t1 t2 t3 y1 y1' y2 y3 hyf c3 d0 d1 d2 d4 hb hn hkb
  unfold msV
  go_wp2_with fail
  refine FC.out.mono ?_
  rintro e w3 ⟨S1b, rfl, t1, t2, t3⟩
  obtain ⟨z1, z2, z3⟩ := Y1.out.tab t1 t2.2 t3 ms'
  have hbx : w3.heap[w1.heap.size]? = some (.cells #[.int .u32 (y.u : Int), .int .u8 (y.f : Int), .slice y.A y.b.length y.k] 52) := t3.heap HN.out fun e => HKB.out _ e rfl
  have b1 : w3.cell? ⟨w1.heap.size, 1, none⟩ = some (.int .u8 (y.f : Int)) := cell_of_row _ _ 1 _ _ _ hbx
  have Z1 := Lib.hid z1
  have hz2 : MoreQ (SS g gc S1 S2 S3) (SS g gc S1b S2 S3) w := fun k e => (z2 k e).elim (Y2.out k) fun e => by
    have := Y3.out.size
    exact .inr (by omega)
  have Z2 := Lib.hid hz2
  have Z3 := Lib.hid (Y3.out.trans z3 fun j e => Y2.out j e)
  clear FC t1 t2 t3 z1 z2 z3 hz2 hbx d3
  go_wp2_with fail
  go_quiet (fail)
  go_wp2_with fail
  go_ret3
  have hb9 := belowDrawN (Below.refl w3.heap.size w3)
  exact ⟨rfl, S1b, Z1.out.below (hb9 _), Z2.out, Z3.out.then_below (hb9 _)⟩
set_option maxRecDepth 100000 in
set_option maxHeartbeats 4000000 in
theorem mchg_same (u : Nat) (hu : u ≤ 4294967295) (mode : Int) (hm : -9223372036854775808 ≤ mode ∧ mode ≤ 9223372036854775807) (f : Nat) (hf : f ≤ 255) (L' : List MI) (av : Nat) (cd : Int) (ms' : List MsgP) (hfl : flM L u mode f = (L', (av : Int), cd))
    (hc : av = ((getM L u).getD ⟨0, 0, none, 0, []⟩).f) (h0 : cd = 0) (hX : SX g gt gc gi mb T L U S1 S2 S3 st w) (hG : SG st T L) :
    Calls Tryz.prog 36 #[.pointer (some ⟨g, 0, none⟩), .int .u32 (u : Int), .int .i64 mode, .int .u8 (f : Int)] w fun e w' => e = .returned (.tuple #[.int .u8 (av : Int), .bool false, .int .i64 cd]) ∧ ∃ S1', SX g gt gc gi mb T L' U S1' S2 S3 { st with ms := ms' } w' ∧ MoreQ (SS g gc S1 S2 S3) (SS g gc S1' S2 S3) w ∧ KeptO (SS g gc S1 S2 S3) w w' := by
  have hll := hG.llen
  have hlen := hG.len
  have hcap := hG.cap
  obtain ⟨c0, c1, c2, c3, c4⟩ := hX.cells
  have GT := Lib.hid (tget_any u hu hX.tb (by omega))
  have HLL := Lib.hid (show L.length ≤ 100000 by omega)
  have HX := Lib.hid hX
  have HG := Lib.hid hG
  have HU := Lib.hid hu
  have HM := Lib.hid hm
  have HF := Lib.hid hf
  have HFL := Lib.hid hfl
  subst h0
  have HC := Lib.hid hc
  clear hc
  clear hX hG c0 c1 c2 c4 hlen hcap hll hu hm hf hfl
  go_enter Tryz.func36, Tryz.ntmps36
  go_wp2_with fail
  refine GT.out.mono ?_
  rintro e w1 ⟨y, S1a, rfl, hsm, -, -, t1, t2, t3⟩
  obtain ⟨y1, y2, y3⟩ := HX.out.tab t1 t2.2 t3 st.ms
  have hyf : y.f = ((getM L u).getD ⟨0, 0, none, 0, []⟩).f := (sameM_iff.1 hsm).2.1
  have hb := below_al w1 (.cells #[.int .u32 (y.u : Int), .int .u8 (y.f : Int), .slice y.A y.b.length y.k] 52)
  have hn := heap_alloc_new w1 (.cells #[.int .u32 (y.u : Int), .int .u8 (y.f : Int), .slice y.A y.b.length y.k] 52)
  have y1' := y1.below hb
  obtain ⟨d0, d1, d2, d3, d4⟩ := y1'.cells
  have FC := tflags_any u mode f HU.out HM.out.1 HM.out.2 HF.out y1'.tb HLL.out
  rw [HFL.out] at FC
  have hkb : ∀ k, S1a k → k ≠ w1.heap.size := fun k e => by have := t1.lt k e; omega
  have HKB := Lib.hid hkb
  have HN := Lib.hid hn
  have FC := Lib.hid FC
  have Y1 := Lib.hid y1'
  have Y2 := Lib.hid y2
  have Y3 := Lib.hid (y3.then_below hb)
  have e1 : ((av : Int) != (y.f : Int)) = false := by rw [hyf, ← HC.out]; simp
  clear GT hsm t1 t2 t3 y1 y1' y2 y3 hyf c3 d0 d1 d2 d4 hb hn hkb
  unfold msV
  go_wp2_with fail
  refine FC.out.mono ?_
  rintro e w3 ⟨S1b, rfl, t1, t2, t3⟩
  obtain ⟨z1, z2, z3⟩ := Y1.out.tab t1 t2.2 t3 ms'
  have hbx : w3.heap[w1.heap.size]? = some (.cells #[.int .u32 (y.u : Int), .int .u8 (y.f : Int), .slice y.A y.b.length y.k] 52) := t3.heap HN.out fun e => HKB.out _ e rfl
  have b1 : w3.cell? ⟨w1.heap.size, 1, none⟩ = some (.int .u8 (y.f : Int)) := cell_of_row _ _ 1 _ _ _ hbx
  have Z1 := Lib.hid z1
  have hz2 : MoreQ (SS g gc S1 S2 S3) (SS g gc S1b S2 S3) w := fun k e => (z2 k e).elim (Y2.out k) fun e => by
    have := Y3.out.size
    exact .inr (by omega)
  have Z2 := Lib.hid hz2
  have Z3 := Lib.hid (Y3.out.trans z3 fun j e => Y2.out j e)
  clear FC t1 t2 t3 z1 z2 z3 hz2 hbx d3
  go_wp2_with fail
  go_quiet (fail)
  go_wp2_with fail
  go_ret3
  have hb9 := belowDrawN (Below.refl w3.heap.size w3)
  exact ⟨rfl, S1b, Z1.out.below (hb9 _), Z2.out, Z3.out.then_below (hb9 _)⟩
set_option maxRecDepth 100000 in
set_option maxHeartbeats 4000000 in
theorem mchg_tell (u : Nat) (hu : u ≤ 4294967295) (mode : Int) (hm : -9223372036854775808 ≤ mode ∧ mode ≤ 9223372036854775807) (f : Nat) (hf : f ≤ 255) (L' : List MI) (av : Nat) (cd : Int) (ms' : List MsgP) (hfl : flM L u mode f = (L', (av : Int), cd))
    (hc : av ≠ ((getM L u).getD ⟨0, 0, none, 0, []⟩).f) (h0 : cd = 0) (hX : SX g gt gc gi mb T L U S1 S2 S3 st w) (hG : SG st T L) :
    Calls Tryz.prog 36 #[.pointer (some ⟨g, 0, none⟩), .int .u32 (u : Int), .int .i64 mode, .int .u8 (f : Int)] w fun e w' => e = .returned (.tuple #[.int .u8 (av : Int), .bool true, .int .i64 cd]) ∧ ∃ S1', SX g gt gc gi mb T L' U S1' S2 S3 { st with ms := ms' } w' ∧ MoreQ (SS g gc S1 S2 S3) (SS g gc S1' S2 S3) w ∧ KeptO (SS g gc S1 S2 S3) w w' := by
  have hll := hG.llen
  have hlen := hG.len
  have hcap := hG.cap
  obtain ⟨c0, c1, c2, c3, c4⟩ := hX.cells
  have GT := Lib.hid (tget_any u hu hX.tb (by omega))
  have HLL := Lib.hid (show L.length ≤ 100000 by omega)
  have HX := Lib.hid hX
  have HG := Lib.hid hG
  have HU := Lib.hid hu
  have HM := Lib.hid hm
  have HF := Lib.hid hf
  have HFL := Lib.hid hfl
  subst h0
  have HC := Lib.hid hc
  clear hc
  clear hX hG c0 c1 c2 c4 hlen hcap hll hu hm hf hfl
  go_enter Tryz.func36, Tryz.ntmps36
  go_wp2_with fail
  refine GT.out.mono ?_
  rintro e w1 ⟨y, S1a, rfl, hsm, -, -, t1, t2, t3⟩
  obtain ⟨y1, y2, y3⟩ := HX.out.tab t1 t2.2 t3 st.ms
  have hyf : y.f = ((getM L u).getD ⟨0, 0, none, 0, []⟩).f := (sameM_iff.1 hsm).2.1
  have hb := below_al w1 (.cells #[.int .u32 (y.u : Int), .int .u8 (y.f : Int), .slice y.A y.b.length y.k] 52)
  have hn := heap_alloc_new w1 (.cells #[.int .u32 (y.u : Int), .int .u8 (y.f : Int), .slice y.A y.b.length y.k] 52)
  have y1' := y1.below hb
  obtain ⟨d0, d1, d2, d3, d4⟩ := y1'.cells
  have FC := tflags_any u mode f HU.out HM.out.1 HM.out.2 HF.out y1'.tb HLL.out
  rw [HFL.out] at FC
  have hkb : ∀ k, S1a k → k ≠ w1.heap.size := fun k e => by have := t1.lt k e; omega
  have HKB := Lib.hid hkb
  have HN := Lib.hid hn
  have FC := Lib.hid FC
  have Y1 := Lib.hid y1'
  have Y2 := Lib.hid y2
  have Y3 := Lib.hid (y3.then_below hb)
  have e1 : ((av : Int) != (y.f : Int)) = true := by rw [hyf]; simpa using fun e => HC.out (by omega)
  clear GT hsm t1 t2 t3 y1 y1' y2 y3 hyf c3 d0 d1 d2 d4 hb hn hkb
  unfold msV
  go_wp2_with fail
  refine FC.out.mono ?_
  rintro e w3 ⟨S1b, rfl, t1, t2, t3⟩
  obtain ⟨z1, z2, z3⟩ := Y1.out.tab t1 t2.2 t3 ms'
  have hbx : w3.heap[w1.heap.size]? = some (.cells #[.int .u32 (y.u : Int), .int .u8 (y.f : Int), .slice y.A y.b.length y.k] 52) := t3.heap HN.out fun e => HKB.out _ e rfl
  have b1 : w3.cell? ⟨w1.heap.size, 1, none⟩ = some (.int .u8 (y.f : Int)) := cell_of_row _ _ 1 _ _ _ hbx
  have Z1 := Lib.hid z1
  have hz2 : MoreQ (SS g gc S1 S2 S3) (SS g gc S1b S2 S3) w := fun k e => (z2 k e).elim (Y2.out k) fun e => by
    have := Y3.out.size
    exact .inr (by omega)
  have Z2 := Lib.hid hz2
  have Z3 := Lib.hid (Y3.out.trans z3 fun j e => Y2.out j e)
  clear FC t1 t2 t3 z1 z2 z3 hz2 hbx d3
  go_wp2_with fail
  go_quiet (fail)
  go_wp2_with fail
  go_ret3
  have hb9 := belowDrawN (Below.refl w3.heap.size w3)
  exact ⟨rfl, S1b, Z1.out.below (hb9 _), Z2.out, Z3.out.then_below (hb9 _)⟩
end
end Go.Proofs.YthdbbappojkmoaaGreat

namespace Go.Proofs.YthdbbappojkmoaaGreat
open Go.RowKit Go.Maps

section
variable {g gt gc gi mb : Nat} {T : Int} {L L' : List MI} {U : List Nat} {S S1 S2 S3 : Nat → Prop} {st st' : StP} {w W W' We : World} {by_ : Int} {u av b : Nat}
/-- What change leaves. -/
def PxF (g gt gc gi mb : Nat) (T : Int) (L' : List MI) (U : List Nat) (S1 S2 S3 : Nat → Prop) (st' : StP) (W W' : World) : Prop :=
  ∃ S1', SX g gt gc gi mb T L' U S1' S2 S3 st' W' ∧ MoreQ (SS g gc S1 S2 S3) (SS g gc S1' S2 S3) W ∧ KeptO (SS g gc S1 S2 S3) W W'
/-- The closure's boxes: by, the identifier, the flags in block b. -/
def BxF (g gt gc gi mb : Nat) (T : Int) (L' : List MI) (U : List Nat) (S1 S2 S3 : Nat → Prop) (st' : StP) (w : World) (by_ : Int) (u av b : Nat) (We : World) : Prop :=
  ∃ S1', SX g gt gc gi mb T L' U S1' S2 S3 st' We ∧ MoreQ (SS g gc S1 S2 S3) (SS g gc S1' S2 S3) w ∧ KeptO (SS g gc S1 S2 S3) w We ∧ (∀ k, (k = w.heap.size ∨ k = w.heap.size + 1 ∨ k = b) → k < We.heap.size ∧ ¬ SS g gc S1' S2 S3 k) ∧
    We.heap[w.heap.size]? = some (.cells #[.int .i64 by_] 3 (0, 0)) ∧ We.heap[w.heap.size + 1]? = some (.cells #[.int .u32 (u : Int)] 27 (0, 0)) ∧ We.heap[b]? = some (.cells #[.int .u8 (av : Int)] 32 (0, 0))
theorem bxF_a (hL : ∀ k, SS g gc S1 S2 S3 k → k < w.heap.size) (hW : Below w.heap.size w W) (hB1 : W.heap[w.heap.size]? = some (.cells #[.int .i64 by_] 3 (0, 0))) (hB2 : W.heap[w.heap.size + 1]? = some (.cells #[.int .u32 (u : Int)] 27 (0, 0)))
    (p : PxF g gt gc gi mb T L' U S1 S2 S3 st' W W') : BxF g gt gc gi mb T L' U S1 S2 S3 st' w by_ u av W'.heap.size (W'.alloc (.cells #[.int .u8 (av : Int)] 32)) := by
  obtain ⟨S1', k1, k2, k3⟩ := p
  have hb := below_al W' (.cells #[.int .u8 (av : Int)] 32)
  have h1 := (Array.getElem?_eq_some_iff.1 hB1).1
  have h2 := (Array.getElem?_eq_some_iff.1 hB2).1
  have hs := k3.size
  have hz : (W'.alloc (.cells #[.int .u8 (av : Int)] 32)).heap.size = W'.heap.size + 1 := by simp
  have b1 := k3.heap hB1 fun e => Nat.lt_irrefl _ (hL _ e)
  have b2 := k3.heap hB2 fun e => by have := hL _ e; omega
  refine ⟨S1', k1.below hb, fun k e => (k2 k e).imp id fun e => by have := hW.size; omega, (KeptO.after_below hW k3).then_below hb, fun k hk => ⟨by omega, fun e => ?_⟩, (hb.block _ (by omega)).trans b1, (hb.block _ (by omega)).trans b2, heap_alloc_new _ _⟩
  have e1 := k1.lt k e
  rcases k2 k e with e2 | e2
  · have := hL k e2
    omega
  · omega
theorem bxF_b (hL : ∀ k, SS g gc S1 S2 S3 k → k < w.heap.size) (hW : Below w.heap.size w W) (hB1 : W.heap[w.heap.size]? = some (.cells #[.int .i64 by_] 3 (0, 0))) (hB2 : W.heap[w.heap.size + 1]? = some (.cells #[.int .u32 (u : Int)] 27 (0, 0)))
    (hz : w.heap.size + 2 < W.heap.size) (h3 : W'.heap[w.heap.size + 2]? = some (.cells #[.int .u8 0] 32 (0, 0)))
    (p : PxF g gt gc gi mb T L' U S1 S2 S3 st' W W') : BxF g gt gc gi mb T L' U S1 S2 S3 st' w by_ u av (w.heap.size + 2) (W'.setCell ⟨w.heap.size + 2, 0, none⟩ (.int .u8 (av : Int))) := by
  obtain ⟨S1', k1, k2, k3⟩ := p
  have hs := k3.size
  have b1 := k3.heap hB1 fun e => Nat.lt_irrefl _ (hL _ e)
  have b2 := k3.heap hB2 fun e => by have := hL _ e; omega
  have hS : ∀ k, SS g gc S1' S2 S3 k → k ≠ w.heap.size ∧ k ≠ w.heap.size + 1 ∧ k ≠ w.heap.size + 2 := fun k e => by
    rcases k2 k e with e2 | e2
    · have := hL k e2
      omega
    · omega
  have hk : KeptO (fun k => k = w.heap.size + 2) W' (W'.setCell ⟨w.heap.size + 2, 0, none⟩ (.int .u8 (av : Int))) := ⟨rfl, rfl, rfl, by simp [World.setCell], fun k _ h => Below.heap_setCell _ _ _ _ fun e => h e⟩
  have hz2 : (W'.setCell ⟨w.heap.size + 2, 0, none⟩ (.int .u8 (av : Int))).heap.size = W'.heap.size := by simp [World.setCell]
  refine ⟨S1', k1.kept hk fun k e => (hS k e).2.2, fun k e => (k2 k e).imp id fun e => by have := hW.size; omega, (KeptO.after_below hW k3).trans hk fun k e => .inr (by omega), fun k hk => ⟨by omega, fun e => ?_⟩, hk.heap b1 (by omega), hk.heap b2 (by omega), ?_⟩
  · have := hS k e
    omega
  · rw [Joins.block_setCell h3]
    rfl
theorem below_drew' (w0 : World) : Below w.heap.size w0 w0.drew := ⟨rfl, rfl, rfl, Nat.le_refl _, fun _ _ => rfl⟩
set_option maxRecDepth 100000 in
set_option maxHeartbeats 4000000 in
theorem chg_no (by_ : Int) (u : Nat) (mode : Int) (f av : Nat) (cd : Int) (hL : ∀ k, SS g gc S1 S2 S3 k → k < w.heap.size)
    (C : ∀ W, Below w.heap.size w W → Calls Tryz.prog 36 #[.pointer (some ⟨g, 0, none⟩), .int .u32 (u : Int), .int .i64 mode, .int .u8 (f : Int)] W fun e w' => e = .returned (.tuple #[.int .u8 (av : Int), .bool false, .int .i64 cd]) ∧ PxF g gt gc gi mb T L' U S1 S2 S3 st' W w') :
    Calls Tryz.prog 11 #[.pointer (some ⟨g, 0, none⟩), .int .i64 by_, .int .u32 (u : Int), .int .i64 mode, .int .u8 (f : Int)] w fun e w' => e = .returned (.tuple #[.int .u8 (av : Int), .int .i64 cd]) ∧ ∃ S1', SX g gt gc gi mb T L' U S1' S2 S3 st' w' ∧ MoreQ (SS g gc S1 S2 S3) (SS g gc S1' S2 S3) w ∧ KeptO (SS g gc S1 S2 S3) w w' := by
  have b1 := below_al w (.cells #[.int .i64 by_] 3)
  have b2 := below_al (w.alloc (.cells #[.int .i64 by_] 3)) (.cells #[.int .u32 (u : Int)] 27)
  have b3 := below_al ((w.alloc (.cells #[.int .i64 by_] 3)).alloc (.cells #[.int .u32 (u : Int)] 27)) (.cells #[.int .u8 0] 32)
  have hb := below_next b1 b2
  have n1 := heap_alloc_new w (.cells #[.int .i64 by_] 3)
  have n2 := heap_alloc_new (w.alloc (.cells #[.int .i64 by_] 3)) (.cells #[.int .u32 (u : Int)] 27)
  have c7 : ((w.alloc (.cells #[.int .i64 by_] 3)).alloc (.cells #[.int .u32 (u : Int)] 27)).cell? ⟨w.heap.size + 1, 0, none⟩ = some (.int .u32 (u : Int)) := by simp
  have hz : (w.alloc (.cells #[.int .i64 by_] 3)).heap.size = w.heap.size + 1 := by simp
  have hz2 : ((w.alloc (.cells #[.int .i64 by_] 3)).alloc (.cells #[.int .u32 (u : Int)] 27)).heap.size = w.heap.size + 2 := by simp
  have hz3 : (((w.alloc (.cells #[.int .i64 by_] 3)).alloc (.cells #[.int .u32 (u : Int)] 27)).alloc (.cells #[.int .u8 0] 32)).heap.size = w.heap.size + 3 := by simp
  rw [hz] at n2
  have m1 := (b2.block w.heap.size (by omega)).trans n1
  have hx3 := heap_alloc_new ((w.alloc (.cells #[.int .i64 by_] 3)).alloc (.cells #[.int .u32 (u : Int)] 27)) (.cells #[.int .u8 0] 32)
  rw [hz2] at hx3
  have HA := Lib.hid (fun W' (p : PxF g gt gc gi mb T L' U S1 S2 S3 st' ((w.alloc (.cells #[.int .i64 by_] 3)).alloc (.cells #[.int .u32 (u : Int)] 27)).drew W') => bxF_a (av := av) hL (hb.trans (below_drew' _)) m1 n2 p)
  have HBB := Lib.hid (fun W' h3 (p : PxF g gt gc gi mb T L' U S1 S2 S3 st' (((w.alloc (.cells #[.int .i64 by_] 3)).alloc (.cells #[.int .u32 (u : Int)] 27)).alloc (.cells #[.int .u8 0] 32)).drew W') => bxF_b (av := av) hL ((below_next hb b3).trans (below_drew' _)) ((b3.block _ (by omega)).trans m1) ((b3.block _ (by omega)).trans n2) (by show w.heap.size + 2 < (((w.alloc (.cells #[.int .i64 by_] 3)).alloc (.cells #[.int .u32 (u : Int)] 27)).alloc (.cells #[.int .u8 0] 32)).heap.size; omega) h3 p)
  have HPB := Lib.hid (fun W W' (h2 : PxF g gt gc gi mb T L' U S1 S2 S3 st' W W') (h3 : W.heap[w.heap.size + 2]? = some (.cells #[.int .u8 0] 32 (0, 0))) => (show W'.heap[w.heap.size + 2]? = some (.cells #[.int .u8 0] 32 (0, 0)) ∧ W'.cell? ⟨w.heap.size + 2, 0, none⟩ = some (.int .u8 0) ∧ W'.frozen? ⟨w.heap.size + 2, 0, none⟩ = false from by
    obtain ⟨S1', k1, k2, k3⟩ := h2
    have h4 := k3.heap h3 fun e => by have := hL _ e; omega
    exact ⟨h4, cell_of_row _ _ 0 _ _ _ h4, Joins.unfrozen_of_block h4 0⟩))
  have HC := Lib.hid C
  clear C b1 b2 b3 n1 n2 m1 hL 
  go_enter Tryz.func11, Tryz.ntmps11
  go_upto_region 3 with (fail)
  go_region_with (go_at_call 36; refine (HC.out _ (by repeat (first | assumption | exact Below.refl _ _ | refine belowDrawN ?_ _ | refine belowDraw ?_ | refine belowAlloc ?_ _))).mono ?_; rintro e' w1 ⟨rfl, p1⟩; (try (have hq := HPB.out _ _ p1 hx3; obtain ⟨q1, q2, q3⟩ := hq)))
  all_goals
    clear hb hz hz2 hz3 HC HPB hx3 c7
    go_wp2_with fail
    go_ret2
    first
      | (obtain ⟨S1', x1, x2, x3, _⟩ := HA.out _ p1; exact ⟨rfl, S1', x1, x2, x3⟩)
      | (obtain ⟨S1', x1, x2, x3, _⟩ := HBB.out _ q1 p1; exact ⟨rfl, S1', x1, x2, x3⟩)
theorem chg_each (hu : u ≤ 4294967295) (hav : av ≤ 255) (hq : smallP st' 50000) (hs : ∀ i, (st'.sub i).isSome = true → I64 i) (h : BxF g gt gc gi mb T L' U S1 S2 S3 st' w by_ u av b We) :
    Calls Tryz.prog 33 #[.pointer (some ⟨g, 0, none⟩), .func (.func 37) #[] #[.pointer (some ⟨w.heap.size, 0, none⟩), .pointer (some ⟨w.heap.size + 1, 0, none⟩), .pointer (some ⟨b, 0, none⟩)]] We fun e w' => e = .returned (.tuple #[]) ∧
      w'.cell? ⟨b, 0, none⟩ = some (.int .u8 (av : Int)) ∧ ∃ S1' S3', SX g gt gc gi mb T L' U S1' S2 S3' { st' with sub := tellP by_ ⟨3, u, av⟩ st'.sub } w' ∧ MoreQ (SS g gc S1 S2 S3) (SS g gc S1' S2 S3') w ∧ KeptO (SS g gc S1 S2 S3) w w' := by
  obtain ⟨S1', k1, k2, k3, k4, k5, k6, k7⟩ := h
  refine (seach_any (fun k => k = w.heap.size ∨ k = w.heap.size + 1 ∨ k = b) (fun k hk => ⟨(k4 k hk).1, fun e => (k4 k hk).2 (.inr (.inr (.inr (.inr e))))⟩) 37 #[.pointer (some ⟨w.heap.size, 0, none⟩), .pointer (some ⟨w.heap.size + 1, 0, none⟩), .pointer (some ⟨b, 0, none⟩)] (fun i q => if i = by_ then q else q ++ [(⟨3, u, av⟩ : EvI)]) (fun args w => by simp [go_sem])
    (fun i gu q T W _ h2 h3 h4 _ => chg1_any w.heap.size (w.heap.size + 1) b by_ u av hu hav i gu q (by have := hq i q h2; omega) T W h3 ((h4 _ (.inl rfl)).trans k5) ((h4 _ (.inr (.inl rfl))).trans k6) ((h4 _ (.inr (.inr rfl))).trans k7)) hs k1).mono ?_
  rintro e w' ⟨rfl, S3', z1, z2, z3⟩
  have hbx := z3.heap k7 (k4 b (.inr (.inr rfl))).2
  exact ⟨rfl, cell_of_row _ _ 0 _ _ _ hbx, S1', S3', z1, fun k e => (z2 k e).elim (k2 k) fun e => by have := k3.size; exact .inr (by omega), k3.trans z3 k2⟩
set_option maxRecDepth 100000 in
set_option maxHeartbeats 4000000 in
theorem chg_tell (by_ : Int) (u : Nat) (mode : Int) (f av : Nat) (cd : Int) (hL : ∀ k, SS g gc S1 S2 S3 k → k < w.heap.size) (hu : u ≤ 4294967295) (hav : av ≤ 255) (hq : smallP st' 50000) (hs : ∀ i, (st'.sub i).isSome = true → I64 i)
    (C : ∀ W, Below w.heap.size w W → Calls Tryz.prog 36 #[.pointer (some ⟨g, 0, none⟩), .int .u32 (u : Int), .int .i64 mode, .int .u8 (f : Int)] W fun e w' => e = .returned (.tuple #[.int .u8 (av : Int), .bool true, .int .i64 cd]) ∧ PxF g gt gc gi mb T L' U S1 S2 S3 st' W w') :
    Calls Tryz.prog 11 #[.pointer (some ⟨g, 0, none⟩), .int .i64 by_, .int .u32 (u : Int), .int .i64 mode, .int .u8 (f : Int)] w fun e w' => e = .returned (.tuple #[.int .u8 (av : Int), .int .i64 cd]) ∧ ∃ S1' S3', SX g gt gc gi mb T L' U S1' S2 S3' { st' with sub := tellP by_ ⟨3, u, av⟩ st'.sub } w' ∧ MoreQ (SS g gc S1 S2 S3) (SS g gc S1' S2 S3') w ∧ KeptO (SS g gc S1 S2 S3) w w' := by
  have b1 := below_al w (.cells #[.int .i64 by_] 3)
  have b2 := below_al (w.alloc (.cells #[.int .i64 by_] 3)) (.cells #[.int .u32 (u : Int)] 27)
  have b3 := below_al ((w.alloc (.cells #[.int .i64 by_] 3)).alloc (.cells #[.int .u32 (u : Int)] 27)) (.cells #[.int .u8 0] 32)
  have hb := below_next b1 b2
  have n1 := heap_alloc_new w (.cells #[.int .i64 by_] 3)
  have n2 := heap_alloc_new (w.alloc (.cells #[.int .i64 by_] 3)) (.cells #[.int .u32 (u : Int)] 27)
  have c7 : ((w.alloc (.cells #[.int .i64 by_] 3)).alloc (.cells #[.int .u32 (u : Int)] 27)).cell? ⟨w.heap.size + 1, 0, none⟩ = some (.int .u32 (u : Int)) := by simp
  have hz : (w.alloc (.cells #[.int .i64 by_] 3)).heap.size = w.heap.size + 1 := by simp
  have hz2 : ((w.alloc (.cells #[.int .i64 by_] 3)).alloc (.cells #[.int .u32 (u : Int)] 27)).heap.size = w.heap.size + 2 := by simp
  have hz3 : (((w.alloc (.cells #[.int .i64 by_] 3)).alloc (.cells #[.int .u32 (u : Int)] 27)).alloc (.cells #[.int .u8 0] 32)).heap.size = w.heap.size + 3 := by simp
  rw [hz] at n2
  have m1 := (b2.block w.heap.size (by omega)).trans n1
  have hx3 := heap_alloc_new ((w.alloc (.cells #[.int .i64 by_] 3)).alloc (.cells #[.int .u32 (u : Int)] 27)) (.cells #[.int .u8 0] 32)
  rw [hz2] at hx3
  have HA := Lib.hid (fun W' (p : PxF g gt gc gi mb T L' U S1 S2 S3 st' ((w.alloc (.cells #[.int .i64 by_] 3)).alloc (.cells #[.int .u32 (u : Int)] 27)).drew W') => bxF_a (av := av) hL (hb.trans (below_drew' _)) m1 n2 p)
  have HBB := Lib.hid (fun W' h3 (p : PxF g gt gc gi mb T L' U S1 S2 S3 st' (((w.alloc (.cells #[.int .i64 by_] 3)).alloc (.cells #[.int .u32 (u : Int)] 27)).alloc (.cells #[.int .u8 0] 32)).drew W') => bxF_b (av := av) hL ((below_next hb b3).trans (below_drew' _)) ((b3.block _ (by omega)).trans m1) ((b3.block _ (by omega)).trans n2) (by show w.heap.size + 2 < (((w.alloc (.cells #[.int .i64 by_] 3)).alloc (.cells #[.int .u32 (u : Int)] 27)).alloc (.cells #[.int .u8 0] 32)).heap.size; omega) h3 p)
  have HPB := Lib.hid (fun W W' (h2 : PxF g gt gc gi mb T L' U S1 S2 S3 st' W W') (h3 : W.heap[w.heap.size + 2]? = some (.cells #[.int .u8 0] 32 (0, 0))) => (show W'.heap[w.heap.size + 2]? = some (.cells #[.int .u8 0] 32 (0, 0)) ∧ W'.cell? ⟨w.heap.size + 2, 0, none⟩ = some (.int .u8 0) ∧ W'.frozen? ⟨w.heap.size + 2, 0, none⟩ = false from by
    obtain ⟨S1', k1, k2, k3⟩ := h2
    have h4 := k3.heap h3 fun e => by have := hL _ e; omega
    exact ⟨h4, cell_of_row _ _ 0 _ _ _ h4, Joins.unfrozen_of_block h4 0⟩))
  have HC := Lib.hid C
  have HT := Lib.hid (fun b We (h : BxF g gt gc gi mb T L' U S1 S2 S3 st' w by_ u av b We) => chg_each hu hav hq hs h)
  clear C b1 b2 b3 n1 n2 m1 hL  hu hav hq hs
  go_enter Tryz.func11, Tryz.ntmps11
  go_upto_region 3 with (fail)
  go_region_with (go_at_call 36; refine (HC.out _ (by repeat (first | assumption | exact Below.refl _ _ | refine belowDrawN ?_ _ | refine belowDraw ?_ | refine belowAlloc ?_ _))).mono ?_; rintro e' w1 ⟨rfl, p1⟩; (try (have hq := HPB.out _ _ p1 hx3; obtain ⟨q1, q2, q3⟩ := hq)))
  all_goals
    first
      | (have hbx := HA.out _ p1
         have TC := HT.out _ _ hbx
         have TC := Lib.hid TC
         clear hb hz hz2 hz3 HC HPB hx3 c7 hbx)
      | (have hbx := HBB.out _ q1 p1
         have TC := HT.out _ _ hbx
         have TC := Lib.hid TC
         clear hb hz hz2 hz3 HC HPB hx3 c7 hbx q1 q2 q3)
    go_wp2_with fail
    refine TC.out.mono ?_
    rintro e w2 ⟨rfl, d0, hx⟩
    have HX := Lib.hid hx
    clear TC hx
    go_wp2_with fail
    go_ret2
    exact ⟨rfl, HX.out⟩
end
end Go.Proofs.YthdbbappojkmoaaGreat

namespace Go.Proofs.YthdbbappojkmoaaGreat
open Go.RowKit Go.Maps

def updF (u x : Nat) (y : MsgP) : MsgP := if y.u = u then { y with f := x } else y
theorem updF_u (u x : Nat) (y : MsgP) : (updF u x y).u = y.u := by
  unfold updF
  split <;> rfl
section
variable {g : Nat} {T : Int} {L : List MI} {S : Nat → Prop} {st : StP} {w : World}
theorem SG.setf (h : SG st T L) (hG : GoodM L) {k u : Nat} (hk : k < L.length) (hu : L[k].u = u) (x : Nat) (sub : Int → Option (List EvI)) (hs : ∀ i, (sub i).isSome = true → I64 i ∧ 0 ≤ i) :
    SG { st with ms := st.ms.map (updF u x), sub := sub } T (L.set k { L[k] with f := x }) := by
  have hmu : (st.ms.map (updF u x)).map (·.u) = st.ms.map (·.u) := by
    rw [List.map_map]
    exact List.map_congr_left fun m _ => updF_u u x m
  refine ⟨?_, ?_, fun m hm => ?_, h.cap, by show (st.ms.map _).length ≤ _; rw [List.length_map]; exact h.len, h.nx, h.tk, hs⟩
  · show (L.set k { L[k] with f := x }).map keyM = (st.ms.map (updF u x)).map keyP
    have e2 : (st.ms.map (updF u x)).map keyP = (st.ms.map keyP).map fun t => if t.1 = u then (t.1, x, t.2.2) else t := by
      rw [List.map_map, List.map_map]
      refine List.map_congr_left fun m _ => ?_
      show keyP (updF u x m) = if m.u = u then (m.u, x, m.b) else keyP m
      unfold updF
      split <;> rfl
    rw [e2, ← h.ms]
    apply List.ext_getElem
    · simp
    · intro i h1 h2
      have hi : i < L.length := by simpa using h2
      rw [List.getElem_map, List.getElem_set, List.getElem_map, List.getElem_map]
      by_cases e : k = i
      · subst e
        rw [if_pos rfl, if_pos (show (keyM L[k]).1 = u from hu)]
        rfl
      · rw [if_neg e, if_neg]
        intro e3
        apply e
        have hnd := hG.nd
        have e4 : L[k].u = L[i].u := hu.trans e3.symm
        exact (List.getElem_inj (h₀ := by simpa using hk) (h₁ := by simpa using hi) hnd).1 (by simpa using e4)
  · show ((st.ms.map (updF u x)).map (·.u)).Pairwise (· < ·)
    rw [hmu]
    exact h.asc
  · obtain ⟨y, hy, rfl⟩ := List.mem_map.1 hm
    rw [updF_u]
    exact h.lt y hy
theorem schg_any (by_ : Int) (_hb : -9223372036854775808 ≤ by_ ∧ by_ ≤ 9223372036854775807) (u : Nat) (hu : u ≤ 4294967295) (mode : Int) (hm : -9223372036854775808 ≤ mode ∧ mode ≤ 9223372036854775807) (f : Nat) (hf : f ≤ 255) (hq : smallP st 50000) (h : ST g st S w) :
    Calls Tryz.prog 11 #[.pointer (some ⟨g, 0, none⟩), .int .i64 by_, .int .u32 (u : Int), .int .i64 mode, .int .u8 (f : Int)] w fun e w' => ∃ S', e = .returned (.tuple #[.int .u8 ((chgP st by_ u mode f).2.1 : Nat), .int .i64 (chgP st by_ u mode f).2.2]) ∧ ST g (chgP st by_ u mode f).1 S' w' ∧ MoreQ S S' w ∧ KeptO S w w' := by
  obtain ⟨gt, gc, gi, mb, T, L, S1, S2, S3, hX, hG, hE⟩ := h
  have mq : ∀ {S1' S3' : Nat → Prop}, MoreQ (SS g gc S1 S2 S3) (SS g gc S1' S2 S3') w → MoreQ S (SS g gc S1' S2 S3') w := fun h k e => (h k e).imp (hE k).2 id
  have kq : ∀ {w' : World}, KeptO (SS g gc S1 S2 S3) w w' → KeptO S w w' := fun h => h.mono fun k e => (hE k).2 e
  have hL := hX.lt
  have hu2 : ∀ (x : Nat) (sub : Int → Option (List EvI)), uidsP { st with ms := st.ms.map (updF u x), sub := sub } = uidsP st := fun x sub => by
    show (st.ms.map (updF u x)).map (·.u) = st.ms.map (·.u)
    rw [List.map_map]
    exact List.map_congr_left fun m _ => updF_u u x m
  have hfind := hG.find u
  rcases fdI_get L u with ⟨h1, h2⟩ | ⟨k, hk, h1, h2, h3⟩
  · rw [h2] at hfind
    have hn : fndP st.ms u = none := by
      cases hx : fndP st.ms u with
      | none => rfl
      | some m => rw [hx] at hfind; cases hfind
    have hc : chgP st by_ u mode f = (st, 0, 7) := by unfold chgP; rw [hn]
    rw [hc]
    refine (chg_no by_ u mode f 0 7 hL fun W hb => mchg_no u hu mode hm f hf L 0 7 st.ms (flM_none mode f h1) (by decide) (hX.below hb) hG).mono ?_
    rintro e w' ⟨rfl, S1', k1, k2, k3⟩
    exact ⟨_, rfl, ⟨gt, gc, gi, mb, T, L, S1', S2, S3, k1, hG, fun _ => Iff.rfl⟩, mq k2, kq k3⟩
  · rw [h2] at hfind
    obtain ⟨m, hx, hkey⟩ : ∃ m, fndP st.ms u = some m ∧ keyM L[k] = keyP m := by
      cases hx : fndP st.ms u with
      | none => rw [hx] at hfind; cases hfind
      | some m => rw [hx] at hfind; exact ⟨m, rfl, Option.some.inj hfind⟩
    have hmf : L[k].f = m.f := congrArg (fun t => t.2.1) hkey
    have he := flM_some mode f hk h1
    cases hch : changeO m.f mode f with
    | none =>
      have hc : chgP st by_ u mode f = (st, 0, 2) := by unfold chgP; rw [hx]; simp only; rw [hch]
      rw [hmf, hch] at he
      rw [hc]
      refine (chg_no by_ u mode f 0 2 hL fun W hb => mchg_no u hu mode hm f hf L 0 2 st.ms he (by decide) (hX.below hb) hG).mono ?_
      rintro e w' ⟨rfl, S1', k1, k2, k3⟩
      exact ⟨_, rfl, ⟨gt, gc, gi, mb, T, L, S1', S2, S3, k1, hG, fun _ => Iff.rfl⟩, mq k2, kq k3⟩
    | some x =>
      have hle := changeO_le hch
      rw [hmf, hch] at he
      have hget : ((getM L u).getD ⟨0, 0, none, 0, []⟩).f = m.f := by rw [h2]; exact hmf
      by_cases hxm : x = m.f
      · have hc : chgP st by_ u mode f = ({ st with ms := st.ms.map (updF u x), sub := st.sub }, x, 0) := by
          unfold chgP; rw [hx]; simp only; rw [hch]; simp only; rw [if_pos hxm]; rfl
        rw [hc]
        refine (chg_no by_ u mode f x 0 hL fun W hb => mchg_same u hu mode hm f hf _ x 0 (st.ms.map (updF u x)) he (hxm.trans hget.symm) rfl (hX.below hb) hG).mono ?_
        rintro e w' ⟨rfl, S1', k1, k2, k3⟩
        exact ⟨_, rfl, ⟨gt, gc, gi, mb, T, _, S1', S2, S3, hu2 _ _ ▸ k1, hG.setf hX.tb.good hk h3 x st.sub hG.sb, fun _ => Iff.rfl⟩, mq k2, kq k3⟩
      · have hc : chgP st by_ u mode f = ({ st with ms := st.ms.map (updF u x), sub := tellP by_ ⟨3, u, x⟩ st.sub }, x, 0) := by
          unfold chgP; rw [hx]; simp only; rw [hch]; simp only; rw [if_neg hxm]; rfl
        rw [hc]
        refine (chg_tell (st' := { st with ms := st.ms.map (updF u x) }) by_ u mode f x 0 hL hu (by omega) hq (fun i e => (hG.sb i e).1) fun W hb => mchg_tell u hu mode hm f hf _ x 0 (st.ms.map (updF u x)) he (fun e => hxm (e.trans hget)) rfl (hX.below hb) hG).mono ?_
        rintro e w' ⟨rfl, S1', S3', k1, k2, k3⟩
        exact ⟨_, rfl, ⟨gt, gc, gi, mb, T, _, S1', S2, S3', hu2 _ _ ▸ k1, hG.setf hX.tb.good hk h3 x _ (fun i e => hG.sb i (by unfold tellP at e; simpa using e)), fun _ => Iff.rfl⟩, mq k2, kq k3⟩
end
end Go.Proofs.YthdbbappojkmoaaGreat
