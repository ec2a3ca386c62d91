/- The law RespSame: the walk. -/
import Derived.Test.YtcpbgceplgcblaaDoorGj
import Derived.Test.YtcpbgceplgcblaaDoorRsSameR
import Derived.Test.YtcpbgceplgcblaaDoorRsFew
import Derived.Test.YtcpbgceplgcblaaDoorRsInj
import Derived.Test.YtcpbgceplgcblaaDoorEqB
import Derived.Deep.Cut
namespace Go.Proofs.YtcpbgceplgcblaaDoor
open Go.RowKit

theorem few_two (x y : RX) : fewRs [x, y] = (fewR x.r && fewR y.r) := by simp [fewRs]
theorem same_forms {a b : RI} (ha : rsOk a = true) (hb : rsOk b = true) : decide (rsForm a = rsForm b) = rsSame a b := by
  by_cases h : rsForm a = rsForm b
  · obtain rfl := form_inj ha hb h
    rw [rsSame_refl]
    simp
  · rw [decide_eq_false h]
    cases hq : rsSame a b with
    | false => rfl
    | true => exact absurd (by rw [(rsSame_iff a b).1 hq]) h
/-- The two boxes. -/
structure Two9 (w : World) (a : RI) (A : Option Addr) (k : Nat) (b : RI) (B : Option Addr) (m : Nat) (W : World) : Prop where
  ba : RsBox w.heap.size a A k W
  bb : RsBox (w.heap.size + 1) b B m W
  bel : Below w.heap.size w W
theorem Two9.below {w : World} {a : RI} {A : Option Addr} {k : Nat} {b : RI} {B : Option Addr} {m : Nat} {W W' : World} (h : Two9 w a A k b B m W) (hb : Below W.heap.size W W') : Two9 w a A k b B m W' := ⟨h.ba.below hb, h.bb.below hb, below_next h.bel hb⟩

set_option maxRecDepth 100000 in
set_option maxHeartbeats 4000000 in
theorem respSame_any (a : RI) (A : Option Addr) (k : Nat) (ha : RIok a) (b : RI) (B : Option Addr) (m : Nat) (hb : RIok b) (w : World) (henv : Env w) (hA : ByAt w.heap.size w A k a.body) (hB : ByAt w.heap.size w B m b.body) :
    Calls Tryd.prog 5 #[rsV a A k, rsV b B m] w fun e w' => e = .returned (.bool true) ∧ Below w.heap.size w w' := by
  have AL := Lib.hid (fun W (hW : Below w.heap.size w W) => alive9_any W (henv.below hW))
  have B0 := below_2box w (.cells #[.int .i64 a.kind, .int .u32 (a.n : Int), .string ⟨a.tag.toArray⟩, .int .i64 a.status, .string ⟨a.text.toArray⟩, .int .i64 a.items, .int .u8 (a.flags : Int), .int .u32 (a.uid : Int), .int .u32 (a.size : Int), .slice A a.body.length k] 26) (.cells #[.int .i64 b.kind, .int .u32 (b.n : Int), .string ⟨b.tag.toArray⟩, .int .i64 b.status, .string ⟨b.text.toArray⟩, .int .i64 b.items, .int .u8 (b.flags : Int), .int .u32 (b.uid : Int), .int .u32 (b.size : Int), .slice B b.body.length m] 26)
  have T0 : Two9 w a A k b B m ((w.alloc (.cells #[.int .i64 a.kind, .int .u32 (a.n : Int), .string ⟨a.tag.toArray⟩, .int .i64 a.status, .string ⟨a.text.toArray⟩, .int .i64 a.items, .int .u8 (a.flags : Int), .int .u32 (a.uid : Int), .int .u32 (a.size : Int), .slice A a.body.length k] 26)).alloc (.cells #[.int .i64 b.kind, .int .u32 (b.n : Int), .string ⟨b.tag.toArray⟩, .int .i64 b.status, .string ⟨b.text.toArray⟩, .int .i64 b.items, .int .u8 (b.flags : Int), .int .u32 (b.uid : Int), .int .u32 (b.size : Int), .slice B b.body.length m] 26)) := ⟨(RsBox.new w a A k).below (below_al _ _), by have := RsBox.new (w.alloc (.cells #[.int .i64 a.kind, .int .u32 (a.n : Int), .string ⟨a.tag.toArray⟩, .int .i64 a.status, .string ⟨a.text.toArray⟩, .int .i64 a.items, .int .u8 (a.flags : Int), .int .u32 (a.uid : Int), .int .u32 (a.size : Int), .slice A a.body.length k] 26)) b B m; rwa [World.size_alloc] at this, B0⟩
  have T1 := (T0.below (below_al _ (.cells (encRx ⟨a, A, k⟩ ++ encRx ⟨b, B, m⟩).toArray 26)))
  have FW := rfew9_any [⟨a, A, k⟩, ⟨b, B, m⟩] (some ⟨w.heap.size + 2, 0, none⟩) 2 2 rfl (by unfold maxLen; omega) (((w.alloc (.cells #[.int .i64 a.kind, .int .u32 (a.n : Int), .string ⟨a.tag.toArray⟩, .int .i64 a.status, .string ⟨a.text.toArray⟩, .int .i64 a.items, .int .u8 (a.flags : Int), .int .u32 (a.uid : Int), .int .u32 (a.size : Int), .slice A a.body.length k] 26)).alloc (.cells #[.int .i64 b.kind, .int .u32 (b.n : Int), .string ⟨b.tag.toArray⟩, .int .i64 b.status, .string ⟨b.text.toArray⟩, .int .i64 b.items, .int .u8 (b.flags : Int), .int .u32 (b.uid : Int), .int .u32 (b.size : Int), .slice B b.body.length m] 26)).alloc (.cells (encRx ⟨a, A, k⟩ ++ encRx ⟨b, B, m⟩).toArray 26)) (by have := rsAt_two (w := (w.alloc (.cells #[.int .i64 a.kind, .int .u32 (a.n : Int), .string ⟨a.tag.toArray⟩, .int .i64 a.status, .string ⟨a.text.toArray⟩, .int .i64 a.items, .int .u8 (a.flags : Int), .int .u32 (a.uid : Int), .int .u32 (a.size : Int), .slice A a.body.length k] 26)).alloc (.cells #[.int .i64 b.kind, .int .u32 (b.n : Int), .string ⟨b.tag.toArray⟩, .int .i64 b.status, .string ⟨b.text.toArray⟩, .int .i64 b.items, .int .u8 (b.flags : Int), .int .u32 (b.uid : Int), .int .u32 (b.size : Int), .slice B b.body.length m] 26)) (hA.below B0).here (hB.below B0).here; rwa [World.size_alloc, World.size_alloc] at this)
  rw [few_two] at FW
  unfold encRx at *
  simp only [List.cons_append, List.nil_append] at T1 FW
  have T1 := Lib.hid T1
  have HFW := Lib.hid FW
  cases hf : (fewR a && fewR b) with
  | false =>
    have FW := Lib.hid (hf ▸ HFW.out)
    clear HFW hf B0 hA hB henv ha hb T0
    unfold rsV
    go_enter Tryd.func5, Tryd.ntmps5
    go_wp2_with fail
    refine FW.out.mono ?_
    rintro e w1 ⟨rfl, rfl⟩
    go_wp2_with fail
    refine (AL.out _ T1.out.bel).mono ?_
    rintro e w2 ⟨rfl, hb⟩
    have HB2 := Lib.hid (below_next T1.out.bel hb)
    clear hb
    go_wp2_with fail
    go_ret
    exact ⟨rfl, HB2.out⟩
  | true =>
    have FW := Lib.hid (hf ▸ HFW.out)
    rw [Bool.and_eq_true] at hf
    have sa := few_sm hf.1
    have sb := few_sm hf.2
    have PA := Lib.hid (fun W (hW : Below w.heap.size w W) => print9_any a ha sa A k W (henv.below hW) (hA.below hW).here)
    have PB := Lib.hid (fun W (hW : Below w.heap.size w W) => print9_any b hb sb B m W (henv.below hW) (hB.below hW).here)
    have RS := Lib.hid (fun W (hW : Below w.heap.size w W) => rsame9_any a b A B k m W (hA.below hW).here (hB.below hW).here)
    have S1 := Lib.hid (fun W (hW : Below w.heap.size w W) => psame9_any a b A B k m W (hA.below hW).here (hB.below hW).here)
    have S2 := fun W (hW : Below w.heap.size w W) => psame9_any a a A A k k W (hA.below hW).here (hA.below hW).here
    rw [rsSame_refl] at S2
    have S2 := Lib.hid S2
    have la := Lib.hid (form_len a ha sa)
    have lb := Lib.hid (form_len b hb sb)
    have SF := Lib.hid (fun h1 h2 => same_forms (a := a) (b := b) h1 h2)
    generalize rsSame a b = q at *
    have HU : Hid (rsV a A k = .agg #[.int .i64 a.kind, .int .u32 (a.n : Int), .string ⟨a.tag.toArray⟩, .int .i64 a.status, .string ⟨a.text.toArray⟩, .int .i64 a.items, .int .u8 (a.flags : Int), .int .u32 (a.uid : Int), .int .u32 (a.size : Int), .slice A a.body.length k]) := Lib.hid rfl
    have HV : Hid (rsV b B m = .agg #[.int .i64 b.kind, .int .u32 (b.n : Int), .string ⟨b.tag.toArray⟩, .int .i64 b.status, .string ⟨b.text.toArray⟩, .int .i64 b.items, .int .u8 (b.flags : Int), .int .u32 (b.uid : Int), .int .u32 (b.size : Int), .slice B b.body.length m]) := Lib.hid rfl
    rw [HU.out] at PA S2
    rw [HV.out] at PB
    rw [HU.out, HV.out] at RS S1 ⊢
    clear HFW hf B0 hA hB henv ha hb T0 sa sb HU HV
    go_enter Tryd.func5, Tryd.ntmps5
    go_wp2_with fail
    refine FW.out.mono ?_
    rintro e w1 ⟨rfl, rfl⟩
    clear FW
    go_upto_region 3 with (fail)
    generalize ((w.alloc (.cells #[.int .i64 a.kind, .int .u32 (a.n : Int), .string ⟨a.tag.toArray⟩, .int .i64 a.status, .string ⟨a.text.toArray⟩, .int .i64 a.items, .int .u8 (a.flags : Int), .int .u32 (a.uid : Int), .int .u32 (a.size : Int), .slice A a.body.length k] 26)).alloc (.cells #[.int .i64 b.kind, .int .u32 (b.n : Int), .string ⟨b.tag.toArray⟩, .int .i64 b.status, .string ⟨b.text.toArray⟩, .int .i64 b.items, .int .u8 (b.flags : Int), .int .u32 (b.uid : Int), .int .u32 (b.size : Int), .slice B b.body.length m] 26)).alloc (.cells #[.int .i64 a.kind, .int .u32 (a.n : Int), .string ⟨a.tag.toArray⟩, .int .i64 a.status, .string ⟨a.text.toArray⟩, .int .i64 a.items, .int .u8 (a.flags : Int), .int .u32 (a.uid : Int), .int .u32 (a.size : Int), .slice A a.body.length k, .int .i64 b.kind, .int .u32 (b.n : Int), .string ⟨b.tag.toArray⟩, .int .i64 b.status, .string ⟨b.text.toArray⟩, .int .i64 b.items, .int .u8 (b.flags : Int), .int .u32 (b.uid : Int), .int .u32 (b.size : Int), .slice B b.body.length m] 26) = w1 at *
    obtain ⟨x0, x1, x2, x3, x4, x5, x6, x7, x8, x9⟩ := T1.out.ba.cells
    go_wp2_with fail
    refine (PA.out _ T1.out.bel).mono ?_
    intro e w2 hp
    obtain ⟨X, lx, cx, px, fx, rfl, hyx, hpx, hb⟩ : ∃ X lx cx px, ∃ fx : List UInt8, e = .returned (.tuple #[.slice X lx cx, .bool px]) ∧ (fx.length = lx ∧ lx ≤ 60002 ∧ ByAt w2.heap.size w2 X cx fx) ∧ (px = true → rsOk a = true ∧ fx = rsForm a) ∧ Below w1.heap.size w1 w2 := by
      rcases hp with ⟨hok, X, cx, he, hy, hb⟩ | ⟨hok, he, hb⟩
      · exact ⟨X, _, cx, true, _, he, ⟨rfl, la.out, hy⟩, fun _ => ⟨hok, rfl⟩, hb⟩
      · exact ⟨none, 0, 0, false, [], he, ⟨rfl, by omega, ByAt.nil _ _ _ _⟩, (fun h => by cases h), hb⟩
    have T2 := Lib.hid (T1.out.below hb)
    have HYX := Lib.hid hyx
    have HPX := Lib.hid hpx
    clear hp hyx hpx hb x0 x1 x2 x3 x4 x5 x6 x7 x8 x9 T1 PA
    obtain ⟨x0, x1, x2, x3, x4, x5, x6, x7, x8, x9⟩ := T2.out.bb.cells
    go_wp2_with fail
    refine (PB.out _ T2.out.bel).mono ?_
    intro e w3 hp
    obtain ⟨Y, ly, cy, py, fy, rfl, hyy, hpy, hb⟩ : ∃ Y ly cy py, ∃ fy : List UInt8, e = .returned (.tuple #[.slice Y ly cy, .bool py]) ∧ (fy.length = ly ∧ ly ≤ 60002 ∧ ByAt w3.heap.size w3 Y cy fy) ∧ (py = true → rsOk b = true ∧ fy = rsForm b) ∧ Below w2.heap.size w2 w3 := by
      rcases hp with ⟨hok, X, cx, he, hy, hb⟩ | ⟨hok, he, hb⟩
      · exact ⟨X, _, cx, true, _, he, ⟨rfl, lb.out, hy⟩, fun _ => ⟨hok, rfl⟩, hb⟩
      · exact ⟨none, 0, 0, false, [], he, ⟨rfl, by omega, ByAt.nil _ _ _ _⟩, (fun h => by cases h), hb⟩
    have T3 := Lib.hid (T2.out.below hb)
    have HYX3 := Lib.hid ((HYX.out.2.2.below hb).here)
    have HYY := Lib.hid hyy
    have HPY := Lib.hid hpy
    have HB23 := Lib.hid hb
    clear hp hyy hpy hb x0 x1 x2 x3 x4 x5 x6 x7 x8 x9 T2 PB la lb
    obtain ⟨x0, x1, x2, x3, x4, x5, x6, x7, x8, x9⟩ := T3.out.ba.cells
    obtain ⟨y0, y1, y2, y3, y4, y5, y6, y7, y8, y9⟩ := T3.out.bb.cells
    go_wp2_with fail
    refine (RS.out _ T3.out.bel).mono ?_
    rintro e w4 ⟨rfl, hb⟩
    have T4 := Lib.hid (T3.out.below hb)
    have HB34 := Lib.hid hb
    clear hb x0 x1 x2 x3 x4 x5 x6 x7 x8 x9 y0 y1 y2 y3 y4 y5 y6 y7 y8 y9 T3 RS
    go_wp2_with fail
    refine (AL.out _ T4.out.bel).mono ?_
    rintro e w5 ⟨rfl, hb⟩
    have T5 := Lib.hid (T4.out.below hb)
    have HB35 := Lib.hid (below_next HB34.out hb)
    clear hb T4 AL HB34
    obtain ⟨x0, x1, x2, x3, x4, x5, x6, x7, x8, x9⟩ := T5.out.ba.cells
    obtain ⟨y0, y1, y2, y3, y4, y5, y6, y7, y8, y9⟩ := T5.out.bb.cells
    go_wp2_with fail
    refine (S1.out _ T5.out.bel).mono ?_
    rintro e w6 ⟨rfl, hb⟩
    have T6 := Lib.hid (T5.out.below hb)
    have HB36 := Lib.hid (below_next HB35.out hb)
    clear hb x0 x1 x2 x3 x4 x5 x6 x7 x8 x9 y0 y1 y2 y3 y4 y5 y6 y7 y8 y9 T5 S1 HB35
    obtain ⟨x0, x1, x2, x3, x4, x5, x6, x7, x8, x9⟩ := T6.out.ba.cells
    have qq : (q == q) = true := by simp
    go_wp2_with fail
    refine (S2.out _ T6.out.bel).mono ?_
    rintro e w7 ⟨rfl, hb⟩
    have T7 := Lib.hid (T6.out.below hb)
    have HB37 := Lib.hid (below_next HB36.out hb)
    clear hb x0 x1 x2 x3 x4 x5 x6 x7 x8 x9 T6 S2 HB36
    cases px
    · go_wp2_with fail
      go_ret
      exact ⟨rfl, T7.out.bel⟩
    cases py
    · go_wp2_with fail
      go_ret
      exact ⟨rfl, T7.out.bel⟩
    obtain ⟨oa, rfl⟩ := HPX.out rfl
    obtain ⟨ob, rfl⟩ := HPY.out rfl
    have EQ := equalB_any _ _ X Y cx cy lx ly (rsForm a) (rsForm b) HYX.out.1 HYY.out.1 (by have := HYX.out.2.1; omega) (by have := HYY.out.2.1; omega) w7 (HYX3.out.below HB37.out) (HYY.out.2.2.below HB37.out)
    rw [SF.out oa ob] at EQ
    have EQ := Lib.hid EQ
    clear oa ob
    go_wp2_with fail
    refine EQ.out.mono ?_
    rintro e w8 ⟨rfl, hb⟩
    have HB8 := Lib.hid (below_next T7.out.bel hb)
    clear hb
    go_wp2_with fail
    go_ret
    exact ⟨rfl, HB8.out⟩
end Go.Proofs.YtcpbgceplgcblaaDoor
