/- uid: a counter's New, Next and Take, also of a nil counter. -/
import Derived.Test.YthdbbappojkmoaaGreatUd
import Derived.Deep.RegionWith
namespace Go.Proofs.YthdbbappojkmoaaGreat
open Go.RowKit

/-- What a method of the counter in block g leaves: the counter with its numbers, and all other blocks. -/
def UdTo (g : Nat) (F N T : Int) (w w' : World) : Prop := Ctr g F N T w' ∧ w.grownBy w' (some g)

theorem ctr_new {m : Int} {w : World} : Ctr w.heap.size m m 0 (w.alloc (.cells #[.int .u32 m, .int .u32 m, .int .u64 0, .int .u32 0, .int .i32 0, .int .u32 0, .int .u32 0] 110)).drew :=
  ⟨0, 0, heap_alloc_new _ _, .inl ⟨rfl, rfl⟩⟩

set_option maxRecDepth 100000 in
set_option maxHeartbeats 1000000 in
theorem unew_any (n m : Int) (h1 : 0 ≤ n) (h2 : n ≤ 4294967295) (hm : (n = 0 ∧ m = 1) ∨ (1 ≤ n ∧ m = n)) (w : World) :
    Calls Tryz.prog 28 #[.int .u32 n] w fun e w' => e = .returned (.pointer (some ⟨w.heap.size, 0, none⟩)) ∧ Hid (Ctr w.heap.size m m 0 w') ∧ Below w.heap.size w w' := by
  have hst := fun (a : Addr) (x : Value) (y : Int) (W : World) (hc : W.cell? a = some x) (hz : W.frozen? a = false) => st32_any a x y W hc hz
  have ST := Lib.hid hst
  clear hst
  rcases hm with ⟨rfl, rfl⟩ | ⟨hn, rfl⟩
  · have HN := Lib.hid (ctr_new (m := 1) (w := w))
    have HB := Lib.hid ((Below.refl w.heap.size w).alloc (Nat.le_refl _) (.cells #[.int .u32 1, .int .u32 1, .int .u64 0, .int .u32 0, .int .i32 0, .int .u32 0, .int .u32 0] 110)).drew
    go_enter Tryz.func28, Tryz.ntmps28
    go_wp2_with fail
    go_region_with (go_at_call 48; refine (ST.out _ (.int .u32 0) _ _ (by go_simp) (by go_simp)).mono ?_; rintro e w' ⟨rfl, rfl⟩)
    all_goals
      go_wp2_with fail
      go_ret
      exact ⟨rfl, HN.out, HB⟩

  · have hx : ¬ m < 1 := by omega
    have HN := Lib.hid (ctr_new (m := m) (w := w))
    have HB := Lib.hid ((Below.refl w.heap.size w).alloc (Nat.le_refl _) (.cells #[.int .u32 m, .int .u32 m, .int .u64 0, .int .u32 0, .int .i32 0, .int .u32 0, .int .u32 0] 110)).drew
    go_enter Tryz.func28, Tryz.ntmps28
    go_wp2_with fail
    go_region_with (go_at_call 48; refine (ST.out _ (.int .u32 0) _ _ (by go_simp) (by go_simp)).mono ?_; rintro e w' ⟨rfl, rfl⟩)
    all_goals
      go_wp2_with fail
      go_ret
      first
        | exact ⟨rfl, HN.out, HB⟩
        | (rw [show max m 1 = m from Int.max_eq_left hn]
           exact ⟨rfl, HN.out, HB⟩)

set_option maxRecDepth 100000 in
set_option maxHeartbeats 1000000 in
theorem unext_any (g : Nat) (F N T : Int) (w : World) (h : Ctr g F N T w) :
    Calls Tryz.prog 45 #[.pointer (some ⟨g, 0, none⟩)] w fun e w' => e = .returned (.int .u32 N) ∧ w = w' := by
  have c := h.c
  have c1 := c.2.1
  have c2 := c.2.2
  have hf := h.f
  clear c
  have LD := Lib.hid (ld32_any ⟨g, 1, none⟩ N w c1)
  clear c1 c2 hf h
  go_enter Tryz.func45, Tryz.ntmps45
  go_wp2_with (go_at_call 67; refine LD.out.mono ?_; rintro e w1 ⟨rfl, rfl⟩)
  go_ret
  exact ⟨rfl, rfl⟩

set_option maxRecDepth 100000 in
set_option maxHeartbeats 1000000 in
theorem unext_nil  (w : World) :
    Calls Tryz.prog 45 #[.pointer none] w fun e w' => e = .returned (.int .u32 0) ∧ w = w' := by
  go_enter Tryz.func45, Tryz.ntmps45
  go_wp2_with fail
  go_ret
  exact ⟨rfl, rfl⟩

set_option maxRecDepth 100000 in
set_option maxHeartbeats 1000000 in
theorem utake_nil  (w : World) :
    Calls Tryz.prog 53 #[.pointer none] w fun e w' => e = .returned (.tuple #[.int .u32 0, .int .i64 1]) ∧ w = w' := by
  go_enter Tryz.func53, Tryz.ntmps53
  go_wp2_with fail
  go_ret2
  exact ⟨rfl, rfl⟩

set_option maxRecDepth 100000 in
set_option maxHeartbeats 1000000 in
theorem utake_full (g : Nat) (F T : Int) (w : World) (h : Ctr g F 4294967295 T w) :
    Calls Tryz.prog 53 #[.pointer (some ⟨g, 0, none⟩)] w fun e w' => e = .returned (.tuple #[.int .u32 0, .int .i64 6]) ∧ w = w' := by
  have c := h.c
  have c1 := c.2.1
  have c2 := c.2.2
  have hf := h.f
  clear c
  have LD := Lib.hid (ld32_any ⟨g, 1, none⟩ 4294967295 w c1)
  clear c1 c2 hf h
  go_enter Tryz.func53, Tryz.ntmps53
  go_wp2_with (go_at_call 67; refine LD.out.mono ?_; rintro e w1 ⟨rfl, rfl⟩)
  go_ret2
  exact ⟨rfl, rfl⟩

set_option maxRecDepth 100000 in
set_option maxHeartbeats 1000000 in
theorem utake_ok (g : Nat) (F N T : Int) (n1 : 0 ≤ N) (n2 : N < 4294967295) (t1 : 0 ≤ T) (t2 : T ≤ 4294967295) (w : World) (h : Ctr g F N T w) :
    Calls Tryz.prog 53 #[.pointer (some ⟨g, 0, none⟩)] w fun e w' => e = .returned (.tuple #[.int .u32 N, .int .i64 0]) ∧ Hid (UdTo g F (N + 1) (T + 1) w w') := by
  have c := h.c
  have c1 := c.2.1
  have c2 := c.2.2
  have hf := h.f
  clear c
  have LD := Lib.hid (ld32_any ⟨g, 1, none⟩ N w c1)
  have ST := Lib.hid (st32_any ⟨g, 1, none⟩ _ (N + 1) w c1 (hf 1))
  have k2 : (w.setCell ⟨g, 1, none⟩ (.int .u32 (N + 1))).cell? ⟨g, 2, none⟩ = some (.int .u64 T) := (World.cell?_setCell_other _ ⟨g, 1, none⟩ ⟨g, 2, none⟩ _ (by simp)).trans c2
  have AD := Lib.hid (add64_any ⟨g, 2, none⟩ T t1 t2 _ k2 ((World.frozen?_setCell _ _ _ _).trans (hf 2)))
  have HC := Lib.hid ((h.setN (N + 1)).setT (T + 1))
  have HG := Lib.hid ((grown_setCell w g 1 (.int .u32 (N + 1))).trans (grown_setCell _ g 2 (.int .u64 (T + 1))))
  have e1 : ((N : Int) == 4294967295) = false := by simp; omega
  clear c1 c2 hf h k2
  go_enter Tryz.func53, Tryz.ntmps53
  go_wp2_with (first | (go_at_call 67; refine LD.out.mono ?_; rintro e w1 ⟨rfl, rfl⟩) | (go_at_call 48; refine ST.out.mono ?_; rintro e w1 ⟨rfl, rfl⟩) | (go_at_call 74; refine AD.out.mono ?_; rintro e w1 ⟨rfl, rfl⟩))
  go_ret2
  exact ⟨rfl, HC.out, HG.out⟩

end Go.Proofs.YthdbbappojkmoaaGreat
