/- uid: the reference's counter: New, Take, Skip. -/
import Derived.Test.YtdnmkmmicadnfaaUdM
import Derived.BigQuiet
namespace Go.Proofs.Ytdnmkmmicadnfaa
open Go.RowKit

/-- The reference's counter in block r. -/
def RCt (r : Nat) (F N T : Int) (w : World) : Prop := w.heap[r]? = some (.cells #[.int .u64 F, .int .u64 N, .int .u64 T] 29 (0, 0))
section
variable {r : Nat} {F N T : Int} {w w' : World}
theorem RCt.lt (h : RCt r F N T w) : r < w.heap.size := (Array.getElem?_eq_some_iff.1 h).1
theorem RCt.other {g : Nat} (h : RCt r F N T w) (hg : w.grownBy w' (some g)) (hr : r ≠ g) : RCt r F N T w' := (hg.block r h.lt (fun e => hr (Option.some.inj e))).trans h
theorem RCt.c (h : RCt r F N T w) : w.cell? ⟨r, 0, none⟩ = some (.int .u64 F) ∧ w.cell? ⟨r, 1, none⟩ = some (.int .u64 N) ∧ w.cell? ⟨r, 2, none⟩ = some (.int .u64 T) :=
  ⟨cell_of_row w r 0 _ _ _ h, cell_of_row w r 1 _ _ _ h, cell_of_row w r 2 _ _ _ h⟩
theorem RCt.setN (h : RCt r F N T w) (x : Int) : RCt r F x T (w.setCell ⟨r, 1, none⟩ (.int .u64 x)) := by
  unfold RCt at *
  rw [Joins.block_setCell h]
  rfl
theorem RCt.setT (h : RCt r F N T w) (x : Int) : RCt r F N x (w.setCell ⟨r, 2, none⟩ (.int .u64 x)) := by
  unfold RCt at *
  rw [Joins.block_setCell h]
  rfl
end

set_option maxRecDepth 100000 in
set_option maxHeartbeats 1000000 in
theorem rnew_any (n m : Int) (h1 : 0 ≤ n) (h2 : n ≤ 4294967295) (hm : (n = 0 ∧ m = 1) ∨ (1 ≤ n ∧ m = n)) (w : World) :
    Calls Try.prog 11 #[.int .u32 n] w fun e w' => e = .returned (.agg #[.int .u64 m, .int .u64 m, .int .u64 0]) ∧ Below w.heap.size w w' := by
  rcases hm with ⟨rfl, rfl⟩ | ⟨hn, rfl⟩
  · go_enter Try.func11, Try.ntmps11
    go_wp2_with fail
    exact bodyPost_ret (v := .agg #[.int .u64 1, .int .u64 1, .int .u64 0]) (by simp [results, Try.results11, go_sem]) rfl ⟨rfl, by repeat (first | exact Below.refl _ _ | exact (Below.refl _ _).alloc (Nat.le_refl _) _)⟩
  · have hx : ¬ m < 1 := by omega
    go_enter Try.func11, Try.ntmps11
    go_wp2_with fail
    exact bodyPost_ret (v := .agg #[.int .u64 m, .int .u64 m, .int .u64 0]) (by simp [results, Try.results11, go_sem]) rfl ⟨rfl, by repeat (first | exact Below.refl _ _ | exact (Below.refl _ _).alloc (Nat.le_refl _) _)⟩

set_option maxRecDepth 100000 in
set_option maxHeartbeats 1000000 in
theorem rtake_full (r : Nat) (F N T : Int) (n1 : 4294967295 ≤ N) (w : World) (h : RCt r F N T w) :
    Calls Try.prog 13 #[.pointer (some ⟨r, 0, none⟩)] w fun e w' => e = .returned (.tuple #[.int .u64 0, .int .i64 6]) ∧ w = w' := by
  have c1 := h.c.2.1
  have e1 : decide ((4294967295 : Int) ≤ N) = true := by simp; omega
  clear h
  go_enter Try.func13, Try.ntmps13
  go_wp2_with fail
  go_ret2
  exact ⟨rfl, rfl⟩

set_option maxRecDepth 100000 in
set_option maxHeartbeats 1000000 in
theorem rtake_ok (r : Nat) (F N T : Int) (n0 : 0 ≤ N) (n1 : N < 4294967295) (t0 : 0 ≤ T) (t1 : T < 1000000) (w : World) (h : RCt r F N T w) :
    Calls Try.prog 13 #[.pointer (some ⟨r, 0, none⟩)] w fun e w' => e = .returned (.tuple #[.int .u64 N, .int .i64 0]) ∧ Hid (RCt r F (N + 1) (T + 1) w' ∧ w.grownBy w' (some r)) := by
  have c1 := h.c.2.1
  have c2 := h.c.2.2
  have f := Joins.unfrozen_of_block h
  have e1 : decide ((4294967295 : Int) ≤ N) = false := by simp; omega
  have HC := Lib.hid ((h.setN (N + 1)).setT (T + 1))
  have HG := Lib.hid ((grown_setCell w r 1 (.int .u64 (N + 1))).trans (grown_setCell _ r 2 (.int .u64 (T + 1))))
  have k2 : (w.setCell ⟨r, 1, none⟩ (.int .u64 (N + 1))).cell? ⟨r, 2, none⟩ = some (.int .u64 T) := (World.cell?_setCell_other _ ⟨r, 1, none⟩ ⟨r, 2, none⟩ _ (by simp)).trans c2
  clear h
  go_enter Try.func13, Try.ntmps13
  go_wp2_with fail
  go_ret2
  exact ⟨rfl, HC.out, HG.out⟩

set_option maxRecDepth 100000 in
set_option maxHeartbeats 1000000 in
theorem rskip_f (r : Nat) (F N T x : Int) (x0 : 0 ≤ x) (x1 : x ≤ 4294967295) (hx : x ≤ N) (w : World) (h : RCt r F N T w) :
    Calls Try.prog 15 #[.pointer (some ⟨r, 0, none⟩), .int .u32 x] w fun e w' => e = .returned (.bool false) ∧ w = w' := by
  have c1 := h.c.2.1
  have e1 : decide (x ≤ N) = true := by simp; omega
  clear h
  go_enter Try.func15, Try.ntmps15
  go_wp2_with fail
  go_ret
  exact ⟨rfl, rfl⟩

set_option maxRecDepth 100000 in
set_option maxHeartbeats 1000000 in
theorem rskip_t (r : Nat) (F N T x : Int) (x0 : 0 ≤ x) (x1 : x ≤ 4294967295) (hx : N < x) (w : World) (h : RCt r F N T w) :
    Calls Try.prog 15 #[.pointer (some ⟨r, 0, none⟩), .int .u32 x] w fun e w' => e = .returned (.bool true) ∧ Hid (RCt r F x T w' ∧ w.grownBy w' (some r)) := by
  have c1 := h.c.2.1
  have f := Joins.unfrozen_of_block h
  have e1 : decide (x ≤ N) = false := by simp; omega
  have HC := Lib.hid (h.setN x)
  have HG := Lib.hid (grown_setCell w r 1 (.int .u64 x))
  clear h hx
  go_enter Try.func15, Try.ntmps15
  go_wp2_with fail
  go_ret
  exact ⟨rfl, HC.out, HG.out⟩

end Go.Proofs.Ytdnmkmmicadnfaa
