/- uid: the counter's block, and what its calls leave; the atomic numbers. -/
import Derived.Test.YthdbbappojkmoaaGreatHa
import Derived.Laws.LoneSync
import Derived.Laws.NewBlocks
import Derived.Defers
import Derived.RegionCalls
import Derived.Lib.SmallJoins
import Derived.Deep.QuietTactic
import Derived.BigQuiet
namespace Go.Proofs.YthdbbappojkmoaaGreat
open Go.RowKit

/-- The counter in block g: what it began with (F), its next number (N), how many were taken (T); its validity is not asked for yet, or it is F. -/
structure Ctr (g : Nat) (F N T : Int) (w : World) : Prop where
  st : ∃ d V : Int, w.heap[g]? = some (.cells #[.int .u32 F, .int .u32 N, .int .u64 T, .int .u32 d, .int .i32 0, .int .u32 0, .int .u32 V] 110 (0, 0)) ∧ ((d = 0 ∧ V = 0) ∨ (d = 1 ∧ V = F))

theorem grown_drew (w : World) (b : Nat) : w.grownBy w.drew (some b) := ⟨rfl, rfl, rfl, Nat.le_refl _, fun _ _ _ => rfl⟩
theorem grown_below {w w' : World} {b : Nat} (h : Below w.heap.size w w') : w.grownBy w' (some b) := ⟨h.os, h.tape, h.output, h.size, fun k hk _ => h.block k hk⟩
theorem below_grown {B : Nat} {w w' : World} {r : Nat} (h : w.grownBy w' (some r)) (hr : B ≤ r) (hB : B ≤ w.heap.size) : Below B w w' :=
  ⟨h.os, h.tape, h.output, h.size, fun k hk => h.block k (by omega) (fun e => by injection e; omega)⟩

section
variable {g : Nat} {F N T : Int} {w w' : World}
theorem Ctr.lt (h : Ctr g F N T w) : g < w.heap.size := by obtain ⟨d, V, hb, _⟩ := h.st; exact (Array.getElem?_eq_some_iff.1 hb).1
theorem Ctr.grow (h : Ctr g F N T w) (hb : Below w.heap.size w w') : Ctr g F N T w' := by
  obtain ⟨d, V, hc, k⟩ := h.st
  exact ⟨d, V, (hb.block g h.lt).trans hc, k⟩
theorem Ctr.other {r : Nat} (h : Ctr g F N T w) (hg : w.grownBy w' (some r)) (hr : g ≠ r) : Ctr g F N T w' := by
  obtain ⟨d, V, hc, k⟩ := h.st
  exact ⟨d, V, (hg.block g h.lt (fun e => hr (Option.some.inj e))).trans hc, k⟩
theorem Ctr.c (h : Ctr g F N T w) : w.cell? ⟨g, 0, none⟩ = some (.int .u32 F) ∧ w.cell? ⟨g, 1, none⟩ = some (.int .u32 N) ∧ w.cell? ⟨g, 2, none⟩ = some (.int .u64 T) := by
  obtain ⟨d, V, hc, k⟩ := h.st
  exact ⟨cell_of_row w g 0 _ _ _ hc, cell_of_row w g 1 _ _ _ hc, cell_of_row w g 2 _ _ _ hc⟩
theorem Ctr.f (h : Ctr g F N T w) (o : Nat) : w.frozen? ⟨g, o, none⟩ = false := by
  obtain ⟨d, V, hc, k⟩ := h.st
  exact Joins.unfrozen_of_block hc o
theorem Ctr.setN (h : Ctr g F N T w) (x : Int) : Ctr g F x T (w.setCell ⟨g, 1, none⟩ (.int .u32 x)) := by
  obtain ⟨d, V, hc, k⟩ := h.st
  refine ⟨d, V, ?_, k⟩
  rw [Joins.block_setCell hc]
  rfl
theorem Ctr.setT (h : Ctr g F N T w) (x : Int) : Ctr g F N x (w.setCell ⟨g, 2, none⟩ (.int .u64 x)) := by
  obtain ⟨d, V, hc, k⟩ := h.st
  refine ⟨d, V, ?_, k⟩
  rw [Joins.block_setCell hc]
  rfl
end

set_option maxHeartbeats 1000000 in
theorem ld32_any (a : Addr) (x : Int) (w : World) (hc : w.cell? a = some (.int .u32 x)) :
    Calls Tryz.prog 67 #[.pointer (some a)] w fun e w' => e = .returned (.int .u32 x) ∧ w = w' := by
  have hl := run_call_load (P := Tryz.prog) Tryz.func85 (by kernel_rfl) (by kernel_rfl) (by kernel_rfl) .u32 (by kernel_rfl) hc
  go_enter Tryz.func67, Tryz.ntmps67
  go_wp2
  go_ret
  exact ⟨rfl, rfl⟩

set_option maxHeartbeats 1000000 in
theorem st32_any (a : Addr) (x : Value) (y : Int) (w : World) (hc : w.cell? a = some x) (hz : w.frozen? a = false) :
    Calls Tryz.prog 48 #[.pointer (some a), .int .u32 y] w fun e w' => e = .returned (.tuple #[]) ∧ w' = w.setCell a (.int .u32 y) := by
  have hst := run_call_store (P := Tryz.prog) Tryz.func70 (by kernel_rfl) (by kernel_rfl) (by kernel_rfl) (by kernel_rfl) (k := .u32) (y := y) hc hz
  go_enter Tryz.func48, Tryz.ntmps48
  go_wp2
  go_end0
  exact ⟨rfl, rfl⟩

set_option maxHeartbeats 1000000 in
theorem add64_any (a : Addr) (x : Int) (h1 : 0 ≤ x) (h2 : x ≤ 4294967295) (w : World) (hc : w.cell? a = some (.int .u64 x)) (hz : w.frozen? a = false) :
    Calls Tryz.prog 74 #[.pointer (some a), .int .u64 1] w fun e w' => e = .returned (.int .u64 (x + 1)) ∧ w' = w.setCell a (.int .u64 (x + 1)) := by
  have hst := run_call_add (P := Tryz.prog) Tryz.func99 (by kernel_rfl) (by kernel_rfl) (by kernel_rfl) .u64 (by kernel_rfl) (y := 1) (s := x + 1) hc hz (by simp [go_sem, IntKind.wrap]; try omega)
  go_enter Tryz.func74, Tryz.ntmps74
  go_wp2
  go_ret
  exact ⟨rfl, rfl⟩

end Go.Proofs.YthdbbappojkmoaaGreat
