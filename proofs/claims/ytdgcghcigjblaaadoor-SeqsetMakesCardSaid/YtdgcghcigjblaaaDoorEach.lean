/- seqset: each, the iterator over the numbers of ranges. -/
import Derived.RangeFuncNested
import Derived.RangeFuncBound
import Derived.RangeFuncCalls
import Derived.RangeFuncLeaves
import Derived.RangeFuncBox
import Derived.Shelf.Abstract
import Derived.WalkKit
import Derived.OwnWalkIn
import Derived.TacticsInMore
import Derived.LoopNIn
import Derived.LoopIn
import Derived.Maps.AppendAt
import Derived.Test.YtdgcghcigjblaaaDoorSeqJMath
import Derived.Test.YtdgcghcigjblaaaDoorSlR
import Derived.Test.YtdgcghcigjblaaaDoorKeeps
namespace Go.Proofs.YtdgcghcigjblaaaDoor
open Go.RowKit Go.Shelf
attribute [local go_sem] Oper.semAt_some

theorem keepsT_b {T : TypeId} {w : World} (W : World) (l : Nat) (o o' : Obj) (_ : w.heap.size ≤ l) (h : W.heap[l]? = some o) (hc : o.isCells = false) (_ : o.isWalk = false) : KeepsT T W (W.putObj l o') := by
  have hg := grownBy_putObj' W l o'
  refine ⟨hg.size, fun i cs fr hi => ?_⟩
  have hne : i ≠ l := by
    rintro rfl
    rw [h] at hi
    injection hi with hi
    subst hi
    simp [Obj.isCells] at hc
  have hlt : i < W.heap.size := (Array.getElem?_eq_some_iff.1 hi).1
  rw [hg.block i hlt (by simpa using hne)]
  exact hi
theorem expand_take (L : List R) (k : Nat) (h : k < L.length) : expandL (L.take (k + 1)) = expandL (L.take k) ++ expandR L[k] := by
  unfold expandL
  rw [List.take_succ_eq_append_getElem h, List.flatMap_append, List.flatMap_cons, List.flatMap_nil, List.append_nil]
theorem expand_len (L : List R) (k : Nat) (h : k < L.length) : (expandL (L.take k)).length + (expandR L[k]).length ≤ (expandL L).length := by
  have e : expandL L = expandL (L.take (k + 1)) ++ expandL (L.drop (k + 1)) := by
    unfold expandL; rw [← List.flatMap_append, List.take_append_drop]
  rw [e, expand_take L k h]; simp

theorem grown_alloc (w : World) (o : Obj) : w.grownBy (w.alloc o) none := ⟨rfl, rfl, rfl, by simp, fun i hi _ => Below.heap_alloc w o i hi⟩

set_option maxRecDepth 100000 in
set_option maxHeartbeats 2000000 in
theorem each1_in (F : Fence) (n : Nat) (hF : F.fn 45) (hro : F.round = none) (hn : 1 ≤ n) (l Bs : Nat) (A : Option Addr) (c base : Nat) (L : List R) (hlen : L.length ≤ 1000000000) (hL : ∀ r ∈ L, r.1 ≤ r.2 ∧ r.2 ≤ 4294967295) (J Jx : List Nat → World → Prop)
    (hY : ∀ (pre : List Nat) (x : Nat) (W : World), J pre W → pre.length < (expandL L).length → YieldAt F (n - 1) Tryd.prog l #[.int .u32 (x : Int)] W fun e W' =>
      (e = .returned (.bool true) ∧ J (pre ++ [x]) W' ∧ KeepsT 32 W W') ∨ (e = .returned (.bool false) ∧ Jx (pre ++ [x]) W'))
    (W : World) (hJ : AbidesFrom W.heap.size J) (hBs : W.cell? ⟨Bs, 0, none⟩ = some (.slice A L.length c)) (hrow : W.ownsRow base 32 2 (.slice A L.length c) L.length (flatL encR L)) (h0 : J [] W) :
    CallsIn F n Tryd.prog 45 #[.func (.yield l) #[] #[], .pointer (some ⟨Bs, 0, none⟩)] W fun e W' => (∃ v, e = .returned v) ∧
      ((∃ ys, ys = expandL L ∧ J ys W') ∨ (∃ pre, True ∧ Jx pre W')) := by
  refine callsIn_of_wp Tryd.func45 rfl hF ?_ hro
  simp only [Tryd.ntmps45, List.size_toArray, List.length_cons, List.length_nil, Nat.reduceAdd, Nat.reduceSub, Array.replicate_succ, Array.replicate_zero, List.push_toArray, List.append_toArray, List.nil_append, List.cons_append]
  gi_wp2
  gi_loopw [8] (fun i wr => ∃ k : Nat, k ≤ L.length ∧ i = .int .i64 k ∧ J (expandL (L.take k)) wr ∧ wr.ownsRow base 32 2 (.slice A L.length c) L.length (flatL encR L) ∧ W.heap.size ≤ wr.heap.size)
    (fun i _ => L.length - (intOf i).toNat)
  case atStart => exact ⟨0, Nat.zero_le _, rfl, h0, hrow, Nat.le_refl _⟩
  case round =>
    obtain ⟨k, hk, rfl, hJs, hro', hsz⟩ := hrel
    by_cases hlt : k < L.length
    · obtain ⟨b, off, rfl, hb, hc0, hc1⟩ := (SlAt.of_own encR_len hro').pair hlt
      have hE := Lib.hid (expand_take L k hlt)
      have hEl := expand_len L k hlt
      have hb1 := hL L[k] (List.getElem_mem _)
      generalize L[k] = r at *
      obtain ⟨lo, hi⟩ := r
      dsimp only at hb1 hc0 hc1
      gi_wp2
      have hJ1 := hJ _ wr (wr.alloc (Obj.cells #[.int .u32 (lo : Int), .int .u32 (hi : Int)] 32)) none hJs (grown_alloc _ _) (by intro r e; cases e)
      have hbx := World.alloc_heap_new wr (Obj.cells #[.int .u32 (lo : Int), .int .u32 (hi : Int)] 32)
      have hro1 := hro'.alloc (Obj.cells #[.int .u32 (lo : Int), .int .u32 (hi : Int)] 32)
      have hsz1 : W.heap.size ≤ (wr.alloc (Obj.cells #[.int .u32 (lo : Int), .int .u32 (hi : Int)] 32)).heap.size := by simp; omega
      generalize hbn : wr.heap.size = bn at *
      generalize wr.alloc (Obj.cells #[.int .u32 (lo : Int), .int .u32 (hi : Int)] 32) = wi at *
      clear hc0 hc1 hJs hro' hsz hbn hb
      have hX := Lib.hid hbx
      have hXo := Lib.hid hro1
      clear hbx hro1
      generalize expandL (L.take k) = P at *
      have hel : (expandR (lo, hi)).length = hi + 1 - lo := by simp [expandR]
      rw [hel] at hEl
      have hEl2 := hEl
      clear hel hEl
      gi_loopw [5] (fun m wr => ∃ x : Nat, lo ≤ x ∧ x ≤ hi + 1 ∧ m = .int .u64 (x : Int) ∧ J (P ++ List.range' lo (x - lo)) wr ∧ wr.ownsRow base 32 2 (.slice (some ⟨b, off, none⟩) L.length c) L.length (flatL encR L) ∧ wr.heap[bn]? = some (Obj.cells #[.int .u32 (lo : Int), .int .u32 (hi : Int)] 32 (0, 0)) ∧ W.heap.size ≤ wr.heap.size)
        (fun m _ => hi + 1 - (intOf m).toNat)
      case atStart => exact ⟨lo, Nat.le_refl _, by omega, rfl, by simpa using hJ1, hXo.out, hX.out, hsz1⟩
      case round =>
        obtain ⟨x, hx1, hx2, rfl, hJx, hrow2, hbox, hsz2⟩ := hrel
        have hcell1 : wr.cell? ⟨bn, 1, none⟩ = some (.int .u32 (hi : Int)) := box_cell hbox 1 _ rfl
        have HBX := Lib.hid hbox
        have HRW := Lib.hid hrow2
        clear hbox hrow2
        by_cases hxh : x ≤ hi
        · obtain ⟨fn, tmps, assign, body, hy, hR⟩ := hY (P ++ List.range' lo (x - lo)) x wr hJx (by rw [List.length_append, List.length_range']; omega)
          have hbd : x ≤ 4294967295 := by omega
          have HRx : List.range' lo (x - lo) ++ [x] = List.range' lo (x + 1 - lo) := by
            rw [show x + 1 - lo = (x - lo) + 1 by omega, List.range'_concat]
            congr 2
            omega
          have HRx := Lib.hid HRx
          gi_wp2
          refine hR.mono ?_
          rintro e W3 (⟨rfl, hJ3, hk3⟩ | ⟨rfl, hJx3⟩)
          · gi_wp2
            go_roundw
            case rel => exact ⟨x + 1, by omega, by omega, by go_num, by rw [← HRx.out, ← List.append_assoc]; exact hJ3, hk3.own HRW.out, hk3.box HBX.out, Nat.le_trans hsz2 hk3.1⟩
            case measure => simp [intOf]; omega
          · gi_wp2
            refine bodyPost_ret (results_none rfl _ _ _) rfl ?_
            exact ⟨⟨_, rfl⟩, .inr ⟨_, trivial, hJx3⟩⟩
        · obtain rfl : x = hi + 1 := by omega
          have HJx := Lib.hid hJx
          clear hJx
          gi_wp2
          go_roundw
          case rel => exact ⟨k + 1, by omega, by go_num, by rw [hE.out]; exact HJx.out, HRW.out, hsz2⟩
          case measure => simp [intOf]; omega
    · obtain rfl : k = L.length := by omega
      have hT : J (expandL L) wr := by rw [List.take_length] at hJs; exact hJs
      have hT := Lib.hid hT
      clear hJs
      gi_wp2
      go_end0
      exact ⟨⟨_, rfl⟩, .inl ⟨_, rfl, hT.out⟩⟩
end Go.Proofs.YtdgcghcigjblaaaDoor
