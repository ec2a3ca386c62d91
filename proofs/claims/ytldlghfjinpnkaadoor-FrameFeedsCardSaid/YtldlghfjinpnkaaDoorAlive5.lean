/- The example of chapter 5: the law's own 'alive'. -/
import Derived.Test.YtldlghfjinpnkaaDoorSame
import Derived.Lib.SlBytesConst
namespace Go.Proofs.YtldlghfjinpnkaaDoor
open Go.RowKit
open Go.Lib hiding intOf

/-- Bytes laid by a literal. -/
theorem byAt_litF (w : World) (l : List UInt8) (C : Array Value) (hC : (l.map fun x => Value.int .u8 (x.toNat : Int)).toArray = C) (t : TypeId) (fr : Nat × Nat) : ByAt (w.heap.size + 1) (w.alloc (.cells C t fr)) (some ⟨w.heap.size, 0, none⟩) l.length l := by
  subst hC
  refine ⟨Nat.le_refl _, .inr ⟨w.heap.size, 0, rfl, by omega, by simp, fun j hj => ?_⟩⟩
  rw [Nat.zero_add, World.cell?_alloc_mark]
  simp [hj]

theorem dec_1 : decDigits 1 = [49] := by rw [decDigits]; rfl
theorem annOf_no {l : List UInt8} (h : l[l.length - 1]? ≠ some 125) : annOf l = none := by
  unfold annOf
  rw [List.findSome?_eq_none_iff]
  intro k _
  rw [if_neg (fun hc => h hc.2)]
theorem annOf_yes {l : List UInt8} {n : Nat} (h : AnnL l n) : annOf l = some n := isAnn_eq (isAnn_of l) (show IsAnn l (some n) from h)

/-- The chapter's example, and what waits. -/
def exL : List UInt8 := [97, 32, 78, 79, 79, 80, 13, 10, 97, 32, 88, 32, 123, 49, 125, 13, 10, 98, 13, 10, 99]
def exF : List Fr := [⟨1, [97, 32, 78, 79, 79, 80]⟩, ⟨2, []⟩, ⟨1, [97, 32, 88, 32, 123, 49, 125, 13, 10, 98]⟩]
theorem ex_step0 : stepF exL 0 = some (⟨1, [97, 32, 78, 79, 79, 80]⟩, [97, 32, 88, 32, 123, 49, 125, 13, 10, 98, 13, 10, 99], 0) :=
  stepF_command (e := 6) (by decide +kernel) (by omega) (annOf_no (by decide +kernel))
theorem ex_step1 : stepF [97, 32, 88, 32, 123, 49, 125, 13, 10, 98, 13, 10, 99] 0 = some (⟨2, []⟩, [97, 32, 88, 32, 123, 49, 125, 13, 10, 98, 13, 10, 99], 10) :=
  stepF_ready (e := 7) (n := 1) (by decide +kernel) (by omega) (annOf_yes ⟨by omega, [97, 32, 88, 32], by rw [dec_1]; rfl⟩) (by omega)
theorem ex_step2 : stepF [97, 32, 88, 32, 123, 49, 125, 13, 10, 98, 13, 10, 99] 10 = some (⟨1, [97, 32, 88, 32, 123, 49, 125, 13, 10, 98]⟩, [99], 0) :=
  stepF_command (e := 10) (by decide +kernel) (by omega) (annOf_no (by decide +kernel))
theorem ex_runs : Runs exL 0 exF [99] 0 := .cons ex_step0 (.cons ex_step1 (.cons ex_step2 (.nil _ _)))
theorem ex_done : Done [99] 0 := endOf_past (by decide)

/-- What Split gives at a stream whose frames are known. -/
theorem split_is {T : TypeId} {l R : List UInt8} {k : Nat} {fs : List Fr} {w w' : World} {e : Ending} (h : RsPost T l w e w') (hr : Runs l 0 fs R k) (hd : Done R k) :
    ∃ v vs, e = .returned (.tuple #[v, .int .i64 ((R.length : Nat) : Int)]) ∧ w'.ownsRow w.heap.size T 2 v fs.length (flatL enc2 vs) ∧ FrsAt (fun _ => True) w' vs fs ∧ Below w.heap.size w w' := by
  obtain ⟨v, vs, fs', R', k', h1, h2, h3, h4, h5, h6⟩ := h
  obtain ⟨rfl, rfl, rfl⟩ := h5.det h6 hr hd
  exact ⟨v, vs, h1, h2, h3, h4⟩

/-- Three frames, their cells written out. -/
theorem three {w : World} {base : Nat} {T : TypeId} {v : Value} {vs : List (Int × Value)} {f0 f1 f2 : Fr} (ho : w.ownsRow base T 2 v 3 (flatL enc2 vs)) (hf : FrsAt (fun _ => True) w vs [f0, f1, f2]) :
    ∃ g c A0 c0 A1 c1 A2 c2, v = .slice (some ⟨g, 0, none⟩) 3 c ∧ w.cell? ⟨g, 0, none⟩ = some (.int .i64 (f0.kind : Int)) ∧ w.cell? ⟨g, 1, none⟩ = some (.slice A0 f0.data.length c0) ∧ w.cell? ⟨g, 2, none⟩ = some (.int .i64 (f1.kind : Int)) ∧ w.cell? ⟨g, 3, none⟩ = some (.slice A1 f1.data.length c1) ∧ w.cell? ⟨g, 4, none⟩ = some (.int .i64 (f2.kind : Int)) ∧ w.cell? ⟨g, 5, none⟩ = some (.slice A2 f2.data.length c2) ∧ ByAt w.heap.size w A0 c0 f0.data ∧ ByAt w.heap.size w A1 c1 f1.data ∧ ByAt w.heap.size w A2 c2 f2.data := by
  obtain ⟨g, c, rfl, _, _⟩ := ho.form (by omega)
  cases hf with
  | cons d0 r0 =>
  cases r0 with
  | cons d1 r1 =>
  cases r1 with
  | cons d2 r2 =>
  cases r2
  obtain ⟨A0, c0, _, rfl, b0, _⟩ := d0
  obtain ⟨A1, c1, _, rfl, b1, _⟩ := d1
  obtain ⟨A2, c2, _, rfl, b2, _⟩ := d2
  have hc := fun j (hj : j < 3 * 2) => ho.cellAt j hj
  exact ⟨g, c, A0, c0, A1, c1, A2, c2, rfl, hc 0 (by omega), hc 1 (by omega), hc 2 (by omega), hc 3 (by omega), hc 4 (by omega), hc 5 (by omega), b0.by, b1.by, b2.by⟩

set_option maxRecDepth 100000 in
set_option maxHeartbeats 4000000 in
theorem alive5_any (w : World) (henv : EnvB w.heap.size w) :
    Calls Tryd.prog 8 #[] w fun e w' => e = .returned (.bool true) ∧ Below w.heap.size w w' := by
  have kc := fun (w : World) (C : Array Value) (n c : Nat) => Lib.run_convert_bytes_const (P := Tryd.prog) w 26 5 C n c Tryd.underlying26 Tryd.underlying5
  have B0 := below_al w (.cells #[.int .u8 97, .int .u8 32, .int .u8 78, .int .u8 79, .int .u8 79, .int .u8 80, .int .u8 13, .int .u8 10, .int .u8 97, .int .u8 32, .int .u8 88, .int .u8 32, .int .u8 123, .int .u8 49, .int .u8 125, .int .u8 13, .int .u8 10, .int .u8 98, .int .u8 13, .int .u8 10, .int .u8 99] 5 (21, 22))
  have SP := Lib.hid (split_any _ 21 21 _ exL rfl (by omega) (short_of (by decide)) _ ((henv.below B0).up B0.size) (byAt_litF w exL _ rfl 5 (21, 22)))
  have HB0 := Lib.hid B0
  clear henv B0
  go_enter Tryd.func8, Tryd.ntmps8
  go_wp2_with fail
  refine SP.out.mono ?_
  rintro e w1 hp
  obtain ⟨v, vs, he, ho, hf, hb⟩ := split_is hp ex_runs ex_done
  subst he
  obtain ⟨g, c, A0, c0, A1, c1, A2, c2, rfl, h0, h1, h2, _, _, h5, b0, _, b2⟩ := three ho hf
  have hcv0 := convS _ w1 A0 c0 6 _ b0 rfl
  have hcv2 := convS _ w1 A2 c2 10 _ b2 rfl
  have h1' : w1.cell? ⟨g, 1, none⟩ = some (.slice A0 6 c0) := h1
  have h5' : w1.cell? ⟨g, 5, none⟩ = some (.slice A2 10 c2) := h5
  have h0' : w1.cell? ⟨g, 0, none⟩ = some (.int .i64 1) := h0
  have h2' : w1.cell? ⟨g, 2, none⟩ = some (.int .i64 2) := h2
  have HB1 := Lib.hid (below_next HB0.out hb)
  clear hp ho hf hb b0 b2 SP h0 h1 h2 h5 HB0
  go_wp2_with fail
  go_ret
  exact ⟨rfl, HB1.out⟩
end Go.Proofs.YtldlghfjinpnkaaDoor
