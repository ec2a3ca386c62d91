/- The walk of the law CommandSame where a command is not small; what the two boxes hold. -/
import Derived.Test.YthfopimgdikpgaaGreatDoorFew7
import Derived.Test.YthfopimgdikpgaaGreatDoorSame7R
import Derived.Test.YthfopimgdikpgaaGreatDoorCmdAlive
import Derived.Test.YthfopimgdikpgaaGreatDoorRef07P
import Derived.Deep.Cut
namespace Go.Proofs.YthfopimgdikpgaaGreatDoor
open Go.RowKit

theorem sameC_refl7 (a : CI) : sameC a a = true := by simp [sameC]
/-- What stands in the two boxes. -/
def Box2 (w W : World) (a b : CI) (A1 A2 : Option Addr) (k1 k2 : Nat) (A3 A4 : Option Addr) (k3 k4 : Nat) : Prop :=
  W.heap[w.heap.size]? = some (.cells #[.string ⟨a.tag.toArray⟩, .int .i64 a.kind, .string ⟨a.mbox.toArray⟩, .slice A1 a.set.length k1, .int .i64 a.items, .int .i64 a.mode, .bool a.silent, .int .u8 a.flags, .slice A2 a.data.length k2] 27 (0, 0)) ∧
  W.heap[w.heap.size + 1]? = some (.cells #[.string ⟨b.tag.toArray⟩, .int .i64 b.kind, .string ⟨b.mbox.toArray⟩, .slice A3 b.set.length k3, .int .i64 b.items, .int .i64 b.mode, .bool b.silent, .int .u8 b.flags, .slice A4 b.data.length k4] 27 (0, 0)) ∧
  Below w.heap.size w W ∧ w.heap.size + 2 ≤ W.heap.size
theorem Box2.below {w W W' : World} {a b : CI} {A1 A2 : Option Addr} {k1 k2 : Nat} {A3 A4 : Option Addr} {k3 k4 : Nat} (h : Box2 w W a b A1 A2 k1 k2 A3 A4 k3 k4) (hb : Below W.heap.size W W') : Box2 w W' a b A1 A2 k1 k2 A3 A4 k3 k4 :=
  ⟨(hb.block _ (by have := h.2.2.2; omega)).trans h.1, (hb.block _ (by have := h.2.2.2; omega)).trans h.2.1, h.2.2.1.trans (hb.mono h.2.2.1.size), Nat.le_trans h.2.2.2 hb.size⟩
theorem Box2.start (w : World) (a b : CI) (A1 A2 : Option Addr) (k1 k2 : Nat) (A3 A4 : Option Addr) (k3 k4 : Nat) : Box2 w ((w.alloc (.cells #[.string ⟨a.tag.toArray⟩, .int .i64 a.kind, .string ⟨a.mbox.toArray⟩, .slice A1 a.set.length k1, .int .i64 a.items, .int .i64 a.mode, .bool a.silent, .int .u8 a.flags, .slice A2 a.data.length k2] 27)).alloc (.cells #[.string ⟨b.tag.toArray⟩, .int .i64 b.kind, .string ⟨b.mbox.toArray⟩, .slice A3 b.set.length k3, .int .i64 b.items, .int .i64 b.mode, .bool b.silent, .int .u8 b.flags, .slice A4 b.data.length k4] 27)) a b A1 A2 k1 k2 A3 A4 k3 k4 := by
  have hx := heap_alloc_new (w.alloc (.cells #[.string ⟨a.tag.toArray⟩, .int .i64 a.kind, .string ⟨a.mbox.toArray⟩, .slice A1 a.set.length k1, .int .i64 a.items, .int .i64 a.mode, .bool a.silent, .int .u8 a.flags, .slice A2 a.data.length k2] 27)) (.cells #[.string ⟨b.tag.toArray⟩, .int .i64 b.kind, .string ⟨b.mbox.toArray⟩, .slice A3 b.set.length k3, .int .i64 b.items, .int .i64 b.mode, .bool b.silent, .int .u8 b.flags, .slice A4 b.data.length k4] 27)
  rw [World.size_alloc] at hx
  exact ⟨((below_al (w.alloc _) _).block w.heap.size (by simp)).trans (heap_alloc_new w _), hx, below_next (below_al w _) (below_al _ _), by rw [World.size_alloc, World.size_alloc]; exact Nat.le_refl _⟩
theorem box2_cells {w w4 W : World} {a b : CI} {A1 A2 : Option Addr} {k1 k2 : Nat} {A3 A4 : Option Addr} {k3 k4 : Nat} (h : Box2 w w4 a b A1 A2 k1 k2 A3 A4 k3 k4) (hb : Below w4.heap.size w4 W) : W.cell? ⟨w.heap.size, 0, none⟩ = some (.string ⟨a.tag.toArray⟩) ∧ W.cell? ⟨w.heap.size, 1, none⟩ = some (.int .i64 a.kind) ∧ W.cell? ⟨w.heap.size, 2, none⟩ = some (.string ⟨a.mbox.toArray⟩) ∧ W.cell? ⟨w.heap.size, 3, none⟩ = some (.slice A1 a.set.length k1) ∧ W.cell? ⟨w.heap.size, 4, none⟩ = some (.int .i64 a.items) ∧ W.cell? ⟨w.heap.size, 5, none⟩ = some (.int .i64 a.mode) ∧ W.cell? ⟨w.heap.size, 6, none⟩ = some (.bool a.silent) ∧ W.cell? ⟨w.heap.size, 7, none⟩ = some (.int .u8 a.flags) ∧ W.cell? ⟨w.heap.size, 8, none⟩ = some (.slice A2 a.data.length k2) ∧ W.cell? ⟨w.heap.size + 1, 0, none⟩ = some (.string ⟨b.tag.toArray⟩) ∧ W.cell? ⟨w.heap.size + 1, 1, none⟩ = some (.int .i64 b.kind) ∧ W.cell? ⟨w.heap.size + 1, 2, none⟩ = some (.string ⟨b.mbox.toArray⟩) ∧ W.cell? ⟨w.heap.size + 1, 3, none⟩ = some (.slice A3 b.set.length k3) ∧ W.cell? ⟨w.heap.size + 1, 4, none⟩ = some (.int .i64 b.items) ∧ W.cell? ⟨w.heap.size + 1, 5, none⟩ = some (.int .i64 b.mode) ∧ W.cell? ⟨w.heap.size + 1, 6, none⟩ = some (.bool b.silent) ∧ W.cell? ⟨w.heap.size + 1, 7, none⟩ = some (.int .u8 b.flags) ∧ W.cell? ⟨w.heap.size + 1, 8, none⟩ = some (.slice A4 b.data.length k4) ∧ Below w4.heap.size w4 W := by
  have h2 := h.below hb
  obtain ⟨x0, x1, x2, x3, x4, x5, x6, x7, x8⟩ := cells9 h2.1
  obtain ⟨y0, y1, y2, y3, y4, y5, y6, y7, y8⟩ := cells9 h2.2.1
  exact ⟨x0, x1, x2, x3, x4, x5, x6, x7, x8, y0, y1, y2, y3, y4, y5, y6, y7, y8, hb⟩
theorem fewC_bd {a : CI} (h : fewC a = true) : a.set.length ≤ 60 ∧ a.data.length ≤ 500 := by
  unfold fewC at h
  simp at h
  omega

set_option maxRecDepth 100000 in
set_option maxHeartbeats 1000000 in
theorem commandSame_few (a : CI) (A1 A2 : Option Addr) (k1 k2 : Nat) (b : CI) (A3 A4 : Option Addr) (k3 k4 : Nat) (w : World) (henv : Env w) (h : (fewC a && fewC b) = false) :
    Calls Tryz.prog 5 #[ciV a A1 A2 k1 k2, ciV b A3 A4 k3 k4] w fun e w' => e = .returned (.bool true) ∧ Below w.heap.size w w' := by
  have AL := Lib.hid (fun W (hW : Below w.heap.size w W) => alive7_any W (henv.below hW))
  have FA := Lib.hid (fun W => few_any a A1 A2 k1 k2 W)
  have FB := Lib.hid (fun W => few_any b A3 A4 k3 k4 W)
  have HW := Lib.hid (Box2.start w a b A1 A2 k1 k2 A3 A4 k3 k4)
  have HH := Lib.hid h
  clear henv h
  generalize fewC a = fa at *
  generalize fewC b = fb at *
  unfold ciV at *
  go_enter Tryz.func5, Tryz.ntmps5
  go_upto_region 1 with (fail)
  generalize (w.alloc (.cells #[.string ⟨a.tag.toArray⟩, .int .i64 a.kind, .string ⟨a.mbox.toArray⟩, .slice A1 a.set.length k1, .int .i64 a.items, .int .i64 a.mode, .bool a.silent, .int .u8 a.flags, .slice A2 a.data.length k2] 27)).alloc (.cells #[.string ⟨b.tag.toArray⟩, .int .i64 b.kind, .string ⟨b.mbox.toArray⟩, .slice A3 b.set.length k3, .int .i64 b.items, .int .i64 b.mode, .bool b.silent, .int .u8 b.flags, .slice A4 b.data.length k4] 27) = W2 at *
  obtain ⟨x0, x1, x2, x3, x4, x5, x6, x7, x8⟩ := cells9 HW.out.1
  go_wp2_with fail
  refine (FA.out _).mono ?_
  rintro e w3 ⟨rfl, hb3⟩
  have HW3 := Lib.hid (HW.out.below hb3)
  clear x0 x1 x2 x3 x4 x5 x6 x7 x8 HW hb3 FA
  cases fa with
  | false =>
    clear FB
    go_wp2_with fail
    refine (AL.out _ HW3.out.2.2.1).mono ?_
    rintro e w4 ⟨rfl, hb4⟩
    go_wp2_with fail
    go_ret
    exact ⟨rfl, (HW3.out.below hb4).2.2.1⟩
  | true =>
    obtain ⟨y0, y1, y2, y3, y4, y5, y6, y7, y8⟩ := cells9 HW3.out.2.1
    go_wp2_with fail
    refine (FB.out _).mono ?_
    rintro e w4 ⟨rfl, hb4⟩
    have HW4 := Lib.hid (HW3.out.below hb4)
    clear y0 y1 y2 y3 y4 y5 y6 y7 y8 HW3 hb4 FB
    cases fb with
    | false =>
      go_wp2_with fail
      refine (AL.out _ HW4.out.2.2.1).mono ?_
      rintro e w5 ⟨rfl, hb5⟩
      go_wp2_with fail
      go_ret
      exact ⟨rfl, (HW4.out.below hb5).2.2.1⟩
    | true =>
      exact absurd HH.out (by simp)
end Go.Proofs.YthfopimgdikpgaaGreatDoor
