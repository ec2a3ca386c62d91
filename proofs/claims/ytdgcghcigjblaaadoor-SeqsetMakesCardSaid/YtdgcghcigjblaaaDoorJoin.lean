/- seqset: join. -/
import Derived.Test.YtdgcghcigjblaaaDoorSortR
import Derived.Test.YtdgcghcigjblaaaDoorSeqJMath
import Derived.Test.YtdgcghcigjblaaaDoorSlR
import Derived.RangeFuncBox
import Derived.Deep.QuietTactic
import Derived.BigQuiet
import Derived.RegionTactic
import Derived.ChangeAlike
import Derived.BigRegion
import Derived.OwnWalk
import Derived.Deep.AppendLies
namespace Go.Proofs.YtdgcghcigjblaaaDoor
open Go.RowKit

theorem infoR : (Tryd.prog.info? 32).map (fun i => (i.zero, i.size, i.bytes)) = some (some (.agg #[.int .u32 0, .int .u32 0]), 2, 8) := by kernel_rfl

theorem own_nil {w : World} {base : Nat} {e : TypeId} {size : Nat} {v : Value} {xs : List Value} (h : w.ownsRow base e size v 0 xs) : ∃ A c, v = .slice A 0 c := by
  rcases h.2 with ⟨rfl, _⟩ | ⟨g, cap, cur, rfl, _⟩
  · exact ⟨_, _, rfl⟩
  · exact ⟨_, _, rfl⟩
theorem own_mono {w : World} {base base' : Nat} {e : TypeId} {size n : Nat} {v : Value} {xs : List Value} (h : w.ownsRow base e size v n xs) (hb : base' ≤ base) : w.ownsRow base' e size v n xs := by
  refine ⟨h.1, ?_⟩
  rcases h.2 with h | ⟨g, cap, cur, h1, h2, h3⟩
  · exact .inl h
  · exact .inr ⟨g, cap, cur, h1, Nat.le_trans hb h2, h3⟩

theorem cells_new2 {W : World} {b : Nat} (hb : b = W.heap.size) (x y : Value) (T : TypeId) : ∀ (j : Nat) (u : Value), [x, y][j]? = some u → (W.alloc (.cells #[x, y] T)).cell? ((⟨b, 0, none⟩ : Addr).add j) = some u := by
  subst hb
  intro j u hj
  rw [Addr.add_lit]
  match j, hj with
  | 0, hj => simp at hj; subst hj; simp
  | 1, hj => simp at hj; subst hj; simp
theorem own_past {w : World} {base : Nat} {e : TypeId} {size n : Nat} {v : Value} {xs : List Value} (h : w.ownsRow base e size v n xs) (o o' : Obj) (k : Nat) : (((w.alloc o).drewN k).alloc o').ownsRow base e size v n xs :=
  (show ((w.alloc o).drewN k).ownsRow base e size v n xs from h.alloc o).alloc o'
theorem below_past {B : Nat} {a w : World} (h : Below B a w) (hB : B ≤ w.heap.size) (o o' : Obj) (k : Nat) : Below B a (((w.alloc o).drewN k).alloc o') := by
  have h1 := h.alloc hB o
  have h2 : Below B a ((w.alloc o).drewN k) := ⟨h1.os, h1.tape, h1.output, h1.size, h1.block⟩
  exact h2.alloc (by show B ≤ (w.alloc o).heap.size; simp; omega) o'

theorem flat_set (J : List R) (a b m : Nat) : flatL encR (J ++ [(a, m)]) = (flatL encR (J ++ [(a, b)])).set (J.length * 2 + 1) (.int .u32 (m : Int)) := by
  have hl := flatL_length encR_len J
  rw [flatL_append, flatL_append, List.set_append_right _ _ (by omega), show J.length * 2 + 1 - (flatL encR J).length = 1 by omega]
  rfl

set_option maxRecDepth 100000 in
set_option maxHeartbeats 2000000 in
theorem join_any {base : Nat} (A : Option Addr) (c : Nat) (l : List R) (hlen : l.length ≤ 1000000000) (hok : ∀ r ∈ l, okR r) (w : World)
    (hown : w.ownsRow base 32 2 (.slice A l.length c) l.length (flatL encR l)) :
    Calls Tryd.prog 34 #[.slice A l.length c] w fun e w' => ∃ (J : List R) (v : Value), e = .returned v ∧ canon J ∧ (∀ n, memL J n ↔ memL l n) ∧ J.length ≤ l.length ∧
      w'.ownsRow w.heap.size 32 2 v J.length (flatL encR J) ∧ w.grownBy w' (Value.slice A l.length c).ownBlock := by
  obtain ⟨i0, hi, hz0, hz1, hz2⟩ := info_parts infoR
  by_cases hl0 : l = []
  · subst hl0
    clear hown
    simp only [List.length_nil]
    go_enter Tryd.func34, Tryd.ntmps34
    go_wp2_with fail
    refine (sortNone _ _ _).mono ?_
    rintro e w' ⟨rfl, rfl⟩
    go_wp2
    refine wp_loop_rounds 1 ?_
    rw [rounds_succ]
    go_wp2
    go_ret
    exact ⟨[], _, rfl, canon_nil, fun n => Iff.rfl, by simp, World.ownsRow_nil _ _ _ _, World.grownBy.refl _ _⟩
  · have hpos : 0 < l.length := List.length_pos_iff.2 hl0
    obtain ⟨g, cap, hgv, hg, hglt⟩ := hown.form hpos
    injection hgv with hA _ hcap
    subst hA
    subst hcap
    have S := Lib.hid (sortR_any g c l w hlen hglt hown)
    clear hown
    go_enter Tryd.func34, Tryd.ntmps34
    go_wp2_with fail
    refine S.out.mono ?_
    rintro e w1 ⟨rfl, l', hperm, hsort, hS, hB1⟩
    clear S
    have hl' : l'.length = l.length := hperm.length_eq
    have HL := Lib.hid hl'
    have HP := Lib.hid hperm
    have HS := Lib.hid hsort
    have hok' : ∀ r ∈ l', okR r := fun r hr => hok r (hperm.mem_iff.1 hr)
    have HO := Lib.hid hok'
    have hw1 : w.heap.size ≤ w1.heap.size := hB1.size
    have HB1 := Lib.hid hB1
    clear hl' hperm hsort hok' hok hB1
    go_wp2_with fail
    go_loopw [3, 11] (fun v i wr => ∃ k : Nat, k ≤ l.length ∧ i = .int .i64 k ∧ wr.ownsRow w1.heap.size 32 2 v (joinF (l'.take k)).length (flatL encR (joinF (l'.take k))) ∧ Below w1.heap.size w1 wr)
      (fun _ i _ => l.length - (intOf i).toNat)
    case atStart => exact ⟨0, Nat.zero_le _, rfl, World.ownsRow_nil _ _ _ _, Below.refl _ _⟩
    case round =>
      obtain ⟨k, hk, rfl, hrow, hB⟩ := hrel
      have hle : (joinF (l'.take k)).length ≤ k := Nat.le_trans (joinF_len _) (List.length_take_le _ _)
      by_cases hlt : k < l.length
      · have hlt' : k < l'.length := by have := HL.out; omega
        obtain ⟨g', o', hgo, hgl, hc0, hc1⟩ := (hS.below hB).pair hlt'
        injection hgo with hgo
        injection hgo with hg1 hg2
        subst hg1; subst hg2
        rw [Nat.zero_add] at hc0 hc1
        have HJ := Lib.hid (joinF_take l' k hlt')
        have hr1 : okR l'[k] := HO.out _ (List.getElem_mem _)
        clear HO HP HS hS
        generalize l'[k] = r at *
        generalize joinF (l'.take k) = J at *
        obtain ⟨x, y⟩ := r
        unfold okR at hr1
        dsimp only at hr1 hc0 hc1
        rcases snoc_cases J with rfl | ⟨J, q, rfl⟩
        · obtain ⟨A', c', rfl⟩ := own_nil hrow
          go_wp2_with fail
          go_quiet (fail)
          go_wp2_with (at_builtin; refine wpList_append_own _ rfl _ _ 22 rfl w1.heap.size 32 i0 _ 2 8 Tryd.underlying22 hi hz0 hz1 hz2 rfl (by decide) _ _ _ rfl (own_past hrow _ _ _) ⟨wr.heap.size + 1, 0, none⟩ 1 1 [.int .u32 (x : Int), .int .u32 (y : Int)] rfl rfl (cells_new2 (by simp) _ _ _) (by intro u hu; simp at hu; rcases hu with rfl | rfl <;> rfl) (by unfold maxLen; omega) (by omega) (by have := hB.size; simp; omega) ?_; intro v' wz hown' hgrow _)
          have hbz := (below_past hB hB.size (.cells #[.int .u32 (x : Int), .int .u32 (y : Int)] 32) (.cells #[.int .u32 (x : Int), .int .u32 (y : Int)] 32) nq).grown hgrow (by have := hB.size; simp; omega) (fun k hk => (hrow.lt k hk).1)
          have HO' := Lib.hid hown'
          clear hown' hgrow hrow
          go_wp2
          go_roundw
          case rel => exact ⟨k + 1, by omega, by go_num, by rw [HJ.out, joinStep_nil]; simpa [flatL, encR] using HO'.out, hbz⟩
          case measure => simp [intOf]; omega
        · have hrow2 := hrow
          rw [List.length_append, List.length_singleton] at hrow2
          obtain ⟨g', cap', rfl⟩ := ownsRow_succ hrow2
          clear hrow
          have hJl : (J ++ [q]).length = J.length + 1 := by simp
          have HJL := Lib.hid hJl
          have hle2 : J.length + 1 ≤ k := by omega
          clear hJl hle
          have hq1 : wr.cell? ⟨g', J.length * 2 + 1, none⟩ = some (.int .u32 (q.2 : Int)) := by
            rw [hrow2.cellAt _ (by omega)]
            exact flatL_at encR_len (J ++ [q]) J.length q (by simp) 1 _ rfl
          have hq1f := hrow2.frozenAt (J.length * 2 + 1)
          have hgw := hrow2.lt g' rfl
          by_cases ht : x - 1 ≤ q.2
          · have ht2 : (x : Int) - 1 ≤ (q.2 : Int) := by omega
            go_wp2_with fail
            go_quiet (fail)
            go_wp2_with fail
            go_region
            go_wp2
            have hm : max (q.2 : Int) (y : Int) = ((max q.2 y : Nat) : Int) := by omega
            rw [hm]
            have ho := World.ownsRow.stored (show ((wr.alloc (.cells #[.int .u32 (x : Int), .int .u32 (y : Int)] 32)).drewN (nq + 1)).ownsRow _ _ _ _ _ _ from hrow2.alloc _) (J.length * 2 + 1) (.int .u32 ((max q.2 y : Nat) : Int))
            have hb1 := hB.alloc hB.size (.cells #[.int .u32 (x : Int), .int .u32 (y : Int)] 32)
            have hb2 : Below w1.heap.size w1 ((wr.alloc (.cells #[.int .u32 (x : Int), .int .u32 (y : Int)] 32)).drewN (nq + 1)) := ⟨hb1.os, hb1.tape, hb1.output, hb1.size, hb1.block⟩
            go_roundw
            case rel => exact ⟨k + 1, by omega, by go_num, by rw [HJ.out, joinStep_in ht, List.length_append, List.length_singleton, flat_set J q.1 q.2]; exact ho.1, hb2.setCell (p := ⟨g', J.length * 2 + 1, none⟩) hgw.1 _⟩
            case measure => simp [intOf]; omega
          · have ht2 : ¬ (x : Int) - 1 ≤ (q.2 : Int) := by omega
            go_wp2_with fail
            go_quiet (fail)
            go_wp2_with (at_builtin; refine wpList_append_own _ rfl _ _ 22 rfl w1.heap.size 32 i0 _ 2 8 Tryd.underlying22 hi hz0 hz1 hz2 rfl (by decide) _ _ _ rfl (own_past hrow2 _ _ _) ⟨wr.heap.size + 1, 0, none⟩ 1 1 [.int .u32 (x : Int), .int .u32 (y : Int)] rfl rfl (cells_new2 (by simp) _ _ _) (by intro u hu; simp at hu; rcases hu with rfl | rfl <;> rfl) (by unfold maxLen; omega) (by omega) (by have := hB.size; simp; omega) ?_; intro v' wz hown' hgrow _)
            have hbz := (below_past hB hB.size (.cells #[.int .u32 (x : Int), .int .u32 (y : Int)] 32) (.cells #[.int .u32 (x : Int), .int .u32 (y : Int)] 32) nq).grown hgrow (by have := hB.size; simp; omega) (fun k hk => (hrow2.lt k hk).1)
            have HO' := Lib.hid hown'
            clear hown' hgrow hrow2
            go_wp2
            go_roundw
            case rel => exact ⟨k + 1, by omega, by go_num, by rw [HJ.out, joinStep_out ht]; simpa [flatL, encR] using HO'.out, hbz⟩
            case measure => simp [intOf]; omega
      · obtain rfl : k = l.length := by omega
        have HE : joinF (l'.take l.length) = joinF l' := by rw [List.take_of_length_le (by have := HL.out; omega)]
        rw [HE] at hrow hle
        obtain ⟨f1, f2⟩ := joinF_ok HS.out HO.out
        have HF := Lib.hid f1
        have HG := Lib.hid (fun n => (f2 n).trans (show memL l' n ↔ memL l n from by
          unfold memL
          constructor
          · rintro ⟨r, hr, h⟩; exact ⟨r, HP.out.mem_iff.1 hr, h⟩
          · rintro ⟨r, hr, h⟩; exact ⟨r, HP.out.mem_iff.2 hr, h⟩))
        have HR := Lib.hid (own_mono hrow hw1)
        have HB := Lib.hid (show w.grownBy wr (some g) from ⟨hB.os.trans HB1.out.os, hB.tape.trans HB1.out.tape, hB.output.trans HB1.out.output, Nat.le_trans hw1 hB.size, fun i hi hne => (hB.block i (Nat.lt_of_lt_of_le hi hw1)).trans (HB1.out.block i hi hne)⟩)
        clear HE f1 f2 HO HP HS HL hS hrow hB
        go_wp2
        go_ret
        exact ⟨_, _, rfl, HF.out, HG.out, hle, HR.out, HB.out⟩
end Go.Proofs.YtdgcghcigjblaaaDoor
