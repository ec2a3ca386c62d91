/- uid: a counter's methods, also of a nil counter; the example of the chapter. -/
import Derived.Test.YtdnmkmmicadnfaaUdOnce
import Derived.Deep.RegionWith
namespace Go.Proofs.Ytdnmkmmicadnfaa
open Go.RowKit

/-- What a method of the counter in block g leaves: the counter with its numbers, and all other blocks. -/
def UdTo (g : Nat) (F N T : Int) (w w' : World) : Prop := Ctr g F N T w' ∧ w.grownBy w' (some g)

theorem ctr_new {m : Int} {w : World} : Ctr w.heap.size m m 0 (w.alloc (.cells #[.int .u32 m, .int .u32 m, .int .u64 0, .int .u32 0, .int .i32 0, .int .u32 0, .int .u32 0] 64)).drew :=
  ⟨0, 0, heap_alloc_new _ _, .inl ⟨rfl, rfl⟩⟩

set_option maxRecDepth 100000 in
set_option maxHeartbeats 1000000 in
theorem new_any (n m : Int) (h1 : 0 ≤ n) (h2 : n ≤ 4294967295) (hm : (n = 0 ∧ m = 1) ∨ (1 ≤ n ∧ m = n)) (w : World) :
    Calls Try.prog 10 #[.int .u32 n] w fun e w' => e = .returned (.pointer (some ⟨w.heap.size, 0, none⟩)) ∧ Hid (Ctr w.heap.size m m 0 w') ∧ Below w.heap.size w w' := by
  have hst := fun (a : Addr) (x : Value) (y : Int) (W : World) (hc : W.cell? a = some x) (hz : W.frozen? a = false) => st32_any a x y W hc hz
  have ST := Lib.hid hst
  clear hst
  rcases hm with ⟨rfl, rfl⟩ | ⟨hn, rfl⟩
  · have HN := Lib.hid (ctr_new (m := 1) (w := w))
    have HB := Lib.hid ((Below.refl w.heap.size w).alloc (Nat.le_refl _) (.cells #[.int .u32 1, .int .u32 1, .int .u64 0, .int .u32 0, .int .i32 0, .int .u32 0, .int .u32 0] 64)).drew
    go_enter Try.func10, Try.ntmps10
    go_wp2_with fail
    go_region_with (go_at_call 20; refine (ST.out _ (.int .u32 0) _ _ (by go_simp) (by go_simp)).mono ?_; rintro e w' ⟨rfl, rfl⟩)
    all_goals
      go_wp2_with fail
      go_ret
      exact ⟨rfl, HN.out, HB⟩

  · have hx : ¬ m < 1 := by omega
    have HN := Lib.hid (ctr_new (m := m) (w := w))
    have HB := Lib.hid ((Below.refl w.heap.size w).alloc (Nat.le_refl _) (.cells #[.int .u32 m, .int .u32 m, .int .u64 0, .int .u32 0, .int .i32 0, .int .u32 0, .int .u32 0] 64)).drew
    go_enter Try.func10, Try.ntmps10
    go_wp2_with fail
    go_region_with (go_at_call 20; refine (ST.out _ (.int .u32 0) _ _ (by go_simp) (by go_simp)).mono ?_; rintro e w' ⟨rfl, rfl⟩)
    all_goals
      go_wp2_with fail
      go_ret
      exact ⟨rfl, HN.out, HB⟩

set_option maxRecDepth 100000 in
set_option maxHeartbeats 1000000 in
theorem next_any (g : Nat) (F N T : Int) (w : World) (h : Ctr g F N T w) :
    Calls Try.prog 16 #[.pointer (some ⟨g, 0, none⟩)] w fun e w' => e = .returned (.int .u32 N) ∧ w = w' := by
  have c := h.c
  have c1 := c.2.1
  have c2 := c.2.2
  have hf := h.f
  clear c
  have LD := Lib.hid (ld32_any ⟨g, 1, none⟩ N w c1)
  clear c1 c2 hf h
  go_enter Try.func16, Try.ntmps16
  go_wp2_with (go_at_call 21; refine LD.out.mono ?_; rintro e w1 ⟨rfl, rfl⟩)
  go_ret
  exact ⟨rfl, rfl⟩

set_option maxRecDepth 100000 in
set_option maxHeartbeats 1000000 in
theorem left_any (g : Nat) (F N T : Int) (n1 : 0 ≤ N) (n2 : N ≤ 4294967295) (w : World) (h : Ctr g F N T w) :
    Calls Try.prog 17 #[.pointer (some ⟨g, 0, none⟩)] w fun e w' => e = .returned (.int .u32 (4294967295 - N)) ∧ w = w' := by
  have c := h.c
  have c1 := c.2.1
  have c2 := c.2.2
  have hf := h.f
  clear c
  have LD := Lib.hid (ld32_any ⟨g, 1, none⟩ N w c1)
  clear c1 c2 hf h
  go_enter Try.func17, Try.ntmps17
  go_wp2_with (go_at_call 21; refine LD.out.mono ?_; rintro e w1 ⟨rfl, rfl⟩)
  go_ret
  exact ⟨rfl, rfl⟩

set_option maxRecDepth 100000 in
set_option maxHeartbeats 1000000 in
theorem taken_any (g : Nat) (F N T : Int) (w : World) (h : Ctr g F N T w) :
    Calls Try.prog 18 #[.pointer (some ⟨g, 0, none⟩)] w fun e w' => e = .returned (.int .u64 T) ∧ w = w' := by
  have c := h.c
  have c1 := c.2.1
  have c2 := c.2.2
  have hf := h.f
  clear c
  have LD := Lib.hid (ld64_any ⟨g, 2, none⟩ T w c2)
  clear c1 c2 hf h
  go_enter Try.func18, Try.ntmps18
  go_wp2_with (go_at_call 23; refine LD.out.mono ?_; rintro e w1 ⟨rfl, rfl⟩)
  go_ret
  exact ⟨rfl, rfl⟩

set_option maxRecDepth 100000 in
set_option maxHeartbeats 1000000 in
theorem next_nil  (w : World) :
    Calls Try.prog 16 #[.pointer none] w fun e w' => e = .returned (.int .u32 0) ∧ w = w' := by
  go_enter Try.func16, Try.ntmps16
  go_wp2_with fail
  go_ret
  exact ⟨rfl, rfl⟩

set_option maxRecDepth 100000 in
set_option maxHeartbeats 1000000 in
theorem left_nil  (w : World) :
    Calls Try.prog 17 #[.pointer none] w fun e w' => e = .returned (.int .u32 0) ∧ w = w' := by
  go_enter Try.func17, Try.ntmps17
  go_wp2_with fail
  go_ret
  exact ⟨rfl, rfl⟩

set_option maxRecDepth 100000 in
set_option maxHeartbeats 1000000 in
theorem taken_nil  (w : World) :
    Calls Try.prog 18 #[.pointer none] w fun e w' => e = .returned (.int .u64 0) ∧ w = w' := by
  go_enter Try.func18, Try.ntmps18
  go_wp2_with fail
  go_ret
  exact ⟨rfl, rfl⟩

set_option maxRecDepth 100000 in
set_option maxHeartbeats 1000000 in
theorem take_nil  (w : World) :
    Calls Try.prog 12 #[.pointer none] w fun e w' => e = .returned (.tuple #[.int .u32 0, .int .i64 1]) ∧ w = w' := by
  go_enter Try.func12, Try.ntmps12
  go_wp2_with fail
  go_ret2
  exact ⟨rfl, rfl⟩

set_option maxRecDepth 100000 in
set_option maxHeartbeats 1000000 in
theorem skip_nil (x : Int) (w : World) :
    Calls Try.prog 14 #[.pointer none, .int .u32 x] w fun e w' => e = .returned (.bool false) ∧ w = w' := by
  go_enter Try.func14, Try.ntmps14
  go_wp2_with fail
  go_ret
  exact ⟨rfl, rfl⟩

set_option maxRecDepth 100000 in
set_option maxHeartbeats 1000000 in
theorem valid_nil  (w : World) :
    Calls Try.prog 19 #[.pointer none] w fun e w' => e = .returned (.int .u32 0) ∧ Below w.heap.size w w' := by
  go_enter Try.func19, Try.ntmps19
  go_wp2_with fail
  go_ret
  exact ⟨rfl, (Below.refl _ _).alloc (Nat.le_refl _) _⟩

set_option maxRecDepth 100000 in
set_option maxHeartbeats 1000000 in
theorem take_full (g : Nat) (F T : Int) (w : World) (h : Ctr g F 4294967295 T w) :
    Calls Try.prog 12 #[.pointer (some ⟨g, 0, none⟩)] w fun e w' => e = .returned (.tuple #[.int .u32 0, .int .i64 6]) ∧ w = w' := by
  have c := h.c
  have c1 := c.2.1
  have c2 := c.2.2
  have hf := h.f
  clear c
  have LD := Lib.hid (ld32_any ⟨g, 1, none⟩ 4294967295 w c1)
  clear c1 c2 hf h
  go_enter Try.func12, Try.ntmps12
  go_wp2_with (go_at_call 21; refine LD.out.mono ?_; rintro e w1 ⟨rfl, rfl⟩)
  go_ret2
  exact ⟨rfl, rfl⟩

set_option maxRecDepth 100000 in
set_option maxHeartbeats 1000000 in
theorem take_ok (g : Nat) (F N T : Int) (n1 : 0 ≤ N) (n2 : N < 4294967295) (t1 : 0 ≤ T) (t2 : T < 1000000) (w : World) (h : Ctr g F N T w) :
    Calls Try.prog 12 #[.pointer (some ⟨g, 0, none⟩)] w fun e w' => e = .returned (.tuple #[.int .u32 N, .int .i64 0]) ∧ Hid (UdTo g F (N + 1) (T + 1) w w') := by
  have c := h.c
  have c1 := c.2.1
  have c2 := c.2.2
  have hf := h.f
  clear c
  have LD := Lib.hid (ld32_any ⟨g, 1, none⟩ N w c1)
  have ST := Lib.hid (st32_any ⟨g, 1, none⟩ _ (N + 1) w c1 (hf 1))
  have k2 : (w.setCell ⟨g, 1, none⟩ (.int .u32 (N + 1))).cell? ⟨g, 2, none⟩ = some (.int .u64 T) := (World.cell?_setCell_other _ ⟨g, 1, none⟩ ⟨g, 2, none⟩ _ (by simp)).trans c2
  have AD := Lib.hid (add64_any ⟨g, 2, none⟩ T t1 t2 _ k2 ((World.frozen?_setCell _ _ _ _).trans (hf 2)))
  have HC := Lib.hid ((h.setN (N + 1)).setT (T + 1))
  have HG := Lib.hid ((grown_setCell w g 1 (.int .u32 (N + 1))).trans (grown_setCell _ g 2 (.int .u64 (T + 1))))
  have e1 : ((N : Int) == 4294967295) = false := by simp; omega
  clear c1 c2 hf h k2
  go_enter Try.func12, Try.ntmps12
  go_wp2_with (first | (go_at_call 21; refine LD.out.mono ?_; rintro e w1 ⟨rfl, rfl⟩) | (go_at_call 20; refine ST.out.mono ?_; rintro e w1 ⟨rfl, rfl⟩) | (go_at_call 22; refine AD.out.mono ?_; rintro e w1 ⟨rfl, rfl⟩))
  go_ret2
  exact ⟨rfl, HC.out, HG.out⟩

set_option maxRecDepth 100000 in
set_option maxHeartbeats 1000000 in
theorem skip_f (g : Nat) (F N T : Int) (x : Int) (hx : x ≤ N) (w : World) (h : Ctr g F N T w) :
    Calls Try.prog 14 #[.pointer (some ⟨g, 0, none⟩), .int .u32 x] w fun e w' => e = .returned (.bool false) ∧ w = w' := by
  have c := h.c
  have c1 := c.2.1
  have c2 := c.2.2
  have hf := h.f
  clear c
  have LD := Lib.hid (ld32_any ⟨g, 1, none⟩ N w c1)
  have e1 : decide (x ≤ N) = true := by simp; omega
  clear c1 c2 hf h
  go_enter Try.func14, Try.ntmps14
  go_wp2_with (go_at_call 21; refine LD.out.mono ?_; rintro e w1 ⟨rfl, rfl⟩)
  go_ret
  exact ⟨rfl, rfl⟩

set_option maxRecDepth 100000 in
set_option maxHeartbeats 1000000 in
theorem skip_t (g : Nat) (F N T : Int) (x : Int) (hx : N < x) (w : World) (h : Ctr g F N T w) :
    Calls Try.prog 14 #[.pointer (some ⟨g, 0, none⟩), .int .u32 x] w fun e w' => e = .returned (.bool true) ∧ Hid (UdTo g F x T w w') := by
  have c := h.c
  have c1 := c.2.1
  have c2 := c.2.2
  have hf := h.f
  clear c
  have LD := Lib.hid (ld32_any ⟨g, 1, none⟩ N w c1)
  have ST := Lib.hid (st32_any ⟨g, 1, none⟩ _ x w c1 (hf 1))
  have HC := Lib.hid (h.setN x)
  have HG := Lib.hid (grown_setCell w g 1 (.int .u32 x))
  have e1 : decide (x ≤ N) = false := by simp; omega
  clear c1 c2 hf h hx
  go_enter Try.func14, Try.ntmps14
  go_wp2_with (first | (go_at_call 21; refine LD.out.mono ?_; rintro e w1 ⟨rfl, rfl⟩) | (go_at_call 20; refine ST.out.mono ?_; rintro e w1 ⟨rfl, rfl⟩))
  go_ret
  exact ⟨rfl, HC.out, HG.out⟩

theorem do_any (g p : Nat) (F N T d V : Int) (hd : (d = 0 ∧ V = 0) ∨ (d = 1 ∧ V = F)) (hgp : g ≠ p) (W : World) (hp : W.cell? ⟨p, 0, none⟩ = some (.pointer (some ⟨g, 0, none⟩))) (hb : W.heap[g]? = some (.cells #[.int .u32 F, .int .u32 N, .int .u64 T, .int .u32 d, .int .i32 0, .int .u32 0, .int .u32 V] 64 (0, 0))) :
    Calls Try.prog 24 #[.pointer (some ⟨g, 3, none⟩), .func (.func 25) #[] #[.pointer (some ⟨p, 0, none⟩)]] W fun e w' => e = .returned (.tuple #[]) ∧ Hid (w'.heap[g]? = some (.cells #[.int .u32 F, .int .u32 N, .int .u64 T, .int .u32 1, .int .i32 0, .int .u32 0, .int .u32 F] 64 (0, 0)) ∧ W.grownBy w' (some g)) := by
  have c0 := cell_of_row W g 0 _ _ _ hb
  have c3 := cell_of_row W g 3 _ _ _ hb
  have c4 := cell_of_row W g 4 _ _ _ hb
  have c6 := cell_of_row W g 6 _ _ _ hb
  rcases hd with ⟨rfl, rfl⟩ | ⟨rfl, rfl⟩
  · refine (do_first g ⟨p, 0, none⟩ (by simpa using hgp) F _ W hp c0 c3 c4 c6 (Joins.unfrozen_of_block hb)).mono fun e w' h => ?_
    obtain ⟨he, rfl⟩ := h
    refine ⟨he, ?_, ?_⟩
    · have b1 := (Joins.block_setCell (i := 4) hb (.int .i32 1))
      have b2 := (Joins.block_setCell (i := 6) b1 (.int .u32 F))
      have b3 := (Joins.block_setCell (w := ((W.setCell ⟨g, 4, none⟩ (.int .i32 1)).setCell ⟨g, 6, none⟩ (.int .u32 F)).drew.drew) (i := 3) b2 (.int .u32 1))
      have b4 := (Joins.block_setCell (i := 4) b3 (.int .i32 0))
      rw [b4]
      rfl
    · exact ((grown_setCell W g 4 _).trans ((grown_setCell _ g 6 _).trans ((grown_drew _ g).trans ((grown_drew _ g).trans ((grown_setCell _ g 3 _).trans (grown_setCell _ g 4 _))))))
  · refine (do_done g _ W c3).mono fun e w' h => ?_
    obtain ⟨he, rfl⟩ := h
    exact ⟨he, hb, ⟨rfl, rfl, rfl, Nat.le_refl _, fun _ _ _ => rfl⟩⟩

set_option maxRecDepth 100000 in
set_option maxHeartbeats 1600000 in
theorem valid_any (g : Nat) (F N T : Int) (w : World) (h : Ctr g F N T w) :
    Calls Try.prog 19 #[.pointer (some ⟨g, 0, none⟩)] w fun e w' => e = .returned (.int .u32 F) ∧ Hid (UdTo g F N T w w') := by
  have hlt := h.lt
  have hmf : ∀ (fn : Fn) (first cap : Array Value) (w : World), (Instr.makeFunc fn first cap).run Try.prog w = .ok (.func fn first cap) w := fun _ _ _ _ => rfl
  obtain ⟨d, V, hb, hd⟩ := h.st
  have hW := (Below.refl w.heap.size w).alloc (Nat.le_refl _) (.cells #[.pointer (some ⟨g, 0, none⟩)] 25)
  have D := Lib.hid (do_any g w.heap.size F N T d V hd (by omega) (w.alloc (.cells #[.pointer (some ⟨g, 0, none⟩)] 25)) (by simp) ((hW.block g hlt).trans hb))
  have HW := Lib.hid hW
  have HD := Lib.hid hd
  clear hW hb hd h
  go_enter Try.func19, Try.ntmps19
  go_wp2_with fail
  refine D.out.mono ?_
  rintro e w1 ⟨rfl, hE⟩
  have q6 : w1.cell? ⟨g, 6, none⟩ = some (.int .u32 F) := cell_of_row w1 g 6 _ _ _ hE.out.1
  have qp : w1.cell? ⟨w.heap.size, 0, none⟩ = some (.pointer (some ⟨g, 0, none⟩)) := hE.out.2.cell (by simp) (by simp; omega)
  go_wp2_with fail
  go_ret
  exact ⟨rfl, ⟨1, F, hE.out.1, .inr ⟨rfl, rfl⟩⟩, (grown_below HW.out).trans hE.out.2⟩

end Go.Proofs.Ytdnmkmmicadnfaa
