/- index: All. -/
import Derived.Test.YtkehlknnonppjaaIxW
import Derived.Test.YtkehlknnonppjaaIxR
namespace Go.Proofs.Ytkehlknnonppjaa
open Go.RowKit

theorem run_mkU (n : Nat) (hn : n ≤ 1000000000) (W : World) :
    (Instr.makeSlice 22 (.int .i64 (n : Int)) (.int .i64 (n : Int))).run Try.prog W = .ok (.slice (some ⟨W.heap.size, 0, none⟩) n n) (W.alloc (.cells (madeCells #[.int .u32 0] n) 28)) := by
  obtain ⟨i0, hi, hz0, hz1, hz2⟩ := info_parts infoU
  have hr := run_make (P := Try.prog) W 22 28 i0 _ Try.underlying22 hi hz0 .i64 .i64 (n : Int) (n : Int) (by omega) (Int.le_refl _) (by rw [hz2]; omega) (by omega)
  simp only [Int.toNat_natCast, hz1, Nat.mul_one] at hr
  exact hr

variable {p : Option Addr} {g r : Nat} {l : List Nat} {w w' : World}
set_option maxRecDepth 100000 in
set_option maxHeartbeats 1000000 in
theorem all_any (h : IxO p g r l w) (hl : l.length ≤ 100000) :
    Calls Try.prog 18 #[.pointer p] w fun e w' => ∃ v, e = .returned v ∧ w'.ownsRow w.heap.size 28 1 v l.length (flatL encU l) ∧ Below w.heap.size w w' := by
  have LN := Lib.hid (ixolen_any h)
  have mk := fun W => run_mkU l.length (by omega) W
  rcases h with ⟨rfl, rfl⟩ | ⟨rfl, h⟩
  · have mk0 : ∀ W : World, (Instr.makeSlice 22 (.int .i64 0) (.int .i64 0)).run Try.prog W = .ok (.slice (some ⟨W.heap.size, 0, none⟩) 0 0) (W.alloc (.cells (madeCells #[.int .u32 0] 0) 28)) := fun W => run_mkU 0 (by omega) W
    have O := Lib.hid (show (w.alloc (.cells (madeCells #[.int .u32 0] 0) 28)).ownsRow w.heap.size 28 1 (.slice (some ⟨w.heap.size, 0, none⟩) 0 0) 0 [] from ⟨rfl, .inr ⟨w.heap.size, 0, _, rfl, Nat.le_refl _, heap_alloc_new w _, Nat.le_refl _, Nat.zero_le _, by simp [size_madeCells], by simp⟩⟩)
    have HB := Lib.hid (below_al w (.cells (madeCells #[.int .u32 0] 0) 28))
    go_enter Try.func18, Try.ntmps18
    go_wp2_with fail
    refine LN.out.mono ?_
    rintro e w1 ⟨rfl, rfl⟩
    go_wp2_with fail
    go_ret
    exact ⟨_, rfl, O.out, HB.out⟩
  · have hB0 := below_al w (.cells (madeCells #[.int .u32 0] l.length) 28)
    obtain ⟨A, c, hc, _, hS, _, hcl⟩ := (h.below hB0).open
    have hsz : (Try.prog.info? 28).map (·.size) = some 1 := by kernel_rfl
    have hcs : (flatL encU l).length = l.length := by rw [flatL_length encU_len, Nat.mul_one]
    have hg : (w.alloc (.cells (madeCells #[.int .u32 0] l.length) 28)).heap[w.heap.size]? = some (.cells (madeCells #[.int .u32 0] l.length) 28 (0, 0)) := heap_alloc_new w _
    obtain ⟨w2, hcp, hR2, hB2⟩ : ∃ w2, (Builtin.copy_ #[22, 22] 3 #[.slice (some ⟨w.heap.size, 0, none⟩) l.length l.length, .slice A l.length c]).run Try.prog (w.alloc (.cells (madeCells #[.int .u32 0] l.length) 28)) = .ok (.int .i64 (l.length : Int)) w2 ∧
        w2.heap[w.heap.size]? = some (.cells (flatL encU l).toArray 28 (0, 0)) ∧ Below w.heap.size w w2 := by
      rcases Nat.eq_zero_or_pos l.length with h0 | h0
      · obtain rfl : l = [] := List.eq_nil_of_length_eq_zero h0
        have hrun := run_copy_none (P := Try.prog) (w.alloc (.cells (madeCells #[.int .u32 0] 0) 28)) 22 22 3 28 (some ⟨w.heap.size, 0, none⟩) A 0 0 0 c Try.underlying22 hsz rfl
        exact ⟨_, hrun, by rw [List.length_nil] at hg; rw [hg]; simp [madeCells, flatL], hB0⟩
      · rcases hS with rfl | ⟨b, off, rfl, _, hx⟩
        · cases h0
        · have hrun := run_copy_row (P := Try.prog) (w.alloc (.cells (madeCells #[.int .u32 0] l.length) 28)) 22 22 3 28 w.heap.size 0 l.length l.length ⟨b, off, none⟩ l.length c _ 28 (flatL encU l) Try.underlying22 hsz hg (by rw [hcs]; exact (Nat.min_self _).symm) (fun j v hj => by
            obtain ⟨q, i, x, rfl, h2, h3⟩ := flatL_find encU_len l j v hj
            rw [Addr.add_lit, ← Nat.add_assoc]
            exact hx q x h2 i v h3) (by rw [hcs, size_madeCells]; omega) (one_flatU l)
          rw [hcs] at hrun
          refine ⟨_, hrun, ?_, below_setRow hB0 (Nat.le_refl _) _⟩
          have e : (madeCells #[.int .u32 0] l.length).toList.take 0 ++ flatL encU l ++ (madeCells #[.int .u32 0] l.length).toList.drop (0 + l.length) = flatL encU l := by
            rw [List.take_zero, List.nil_append, List.drop_eq_nil_of_le (by rw [Array.length_toList, size_madeCells]; omega), List.append_nil]
          rw [e]
          exact setRow_heap _ _ _ _ _ _ hg
    have O2 := Lib.hid (show w2.ownsRow w.heap.size 28 1 (.slice (some ⟨w.heap.size, 0, none⟩) l.length l.length) l.length (flatL encU l) from
      ⟨by rw [hcs, Nat.mul_one], .inr ⟨w.heap.size, l.length, _, rfl, Nat.le_refl _, hR2, Nat.le_refl _, by unfold maxLen; omega, by simp [hcs], by rw [Nat.mul_one, List.take_of_length_le (by simp [hcs])]⟩⟩)
    have B2 := Lib.hid hB2
    clear h hB0 hS hg hcs hsz hR2 hB2
    go_enter Try.func18, Try.ntmps18
    go_wp2_with fail
    refine LN.out.mono ?_
    rintro e w1 ⟨rfl, rfl⟩
    go_wp2_with fail
    go_ret
    exact ⟨_, rfl, O2.out, B2.out⟩
end Go.Proofs.Ytkehlknnonppjaa
