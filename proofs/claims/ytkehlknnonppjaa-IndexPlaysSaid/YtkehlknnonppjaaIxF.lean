/- index: from, the iterator over the identifiers that are not less than one. -/
import Derived.RangeFuncNested
import Derived.RangeFuncBound
import Derived.RangeFuncCalls
import Derived.RangeFuncLeaves
import Derived.Shelf.Abstract
import Derived.OwnWalkIn
import Derived.TacticsInMore
import Derived.LoopNIn
import Derived.LoopIn
import Derived.Test.YtkehlknnonppjaaIxB
namespace Go.Proofs.Ytkehlknnonppjaa
open Go.RowKit Go.Shelf
attribute [local go_sem] Oper.semAt_some

theorem keepsT_b {T : TypeId} {w : World} (W : World) (l : Nat) (o o' : Obj) (_ : w.heap.size ≤ l) (h : W.heap[l]? = some o) (hc : o.isCells = false) (_ : o.isWalk = false) : KeepsT T W (W.putObj l o') := by
  have hg := grownBy_putObj' W l o'
  refine ⟨hg.size, fun i cs fr hi => ?_⟩
  have hne : i ≠ l := by
    rintro rfl
    rw [h] at hi
    injection hi with hi
    subst hi
    simp [Obj.isCells] at hc
  have hlt : i < W.heap.size := (Array.getElem?_eq_some_iff.1 hi).1
  rw [hg.block i hlt (by simpa using hne)]
  exact hi
/-- What a round keeps: what lay below n₀; the boxes of pointers to an index. -/
def KpI (n₀ : Nat) (A B : World) : Prop := Below n₀ A B ∧ KeepsT 25 A B
theorem kpI_t {n₀ : Nat} {A B C : World} (h : KpI n₀ A B) (k : KpI n₀ B C) : KpI n₀ A C := ⟨h.1.trans k.1, keepsT_t h.2 k.2⟩
theorem kpI_b {n₀ : Nat} {w : World} (hn : n₀ ≤ w.heap.size) (W : World) (l : Nat) (o o' : Obj) (h1 : w.heap.size ≤ l) (h : W.heap[l]? = some o) (hc : o.isCells = false) (hw : o.isWalk = false) : KpI n₀ W (W.putObj l o') :=
  ⟨belowK_b hn W l o o' h1 h hc hw, keepsT_b W l o o' h1 h hc hw⟩

/-- An index, or none. -/
def IxO (p : Option Addr) (g r : Nat) (l : List Nat) (w : World) : Prop := (p = none ∧ l = []) ∨ (p = some ⟨g, 0, none⟩ ∧ Ix g r l w)
variable {p : Option Addr} {g r n₀ : Nat} {l : List Nat} {w w' : World}
theorem IxO.below (h : IxO p g r l w) (hgr : p = none ∨ (g < n₀ ∧ r < n₀)) (hb : Below n₀ w w') : IxO p g r l w' := by
  rcases h with h | ⟨rfl, h⟩
  · exact .inl h
  · rcases hgr with h1 | ⟨hg, hr⟩
    · cases h1
    · exact .inr ⟨rfl, h.keep hb.size (hb.block g hg) (hb.block r hr)⟩
theorem ixolen_any (h : IxO p g r l w) :
    Calls Try.prog 16 #[.pointer p] w fun e w' => e = .returned (.int .i64 (l.length : Nat)) ∧ w = w' := by
  rcases h with ⟨rfl, rfl⟩ | ⟨rfl, h⟩
  · exact ixlen_nil w
  · exact ixlen_any h
theorem ixobefore_any (u : Nat) (h : IxO p g r l w) :
    Calls Try.prog 26 #[.pointer p, .int .u32 u] w fun e w' => e = .returned (.int .i64 (cntL l u : Nat)) ∧ Below w.heap.size w w' := by
  rcases h with ⟨rfl, rfl⟩ | ⟨rfl, h⟩
  · exact before_nil u w
  · exact before_any u h

set_option maxHeartbeats 1000000 in
theorem from_in (F : Fence) (n : Nat) (h5 : F.fn 27) (hro : F.round = none) (u : Nat) (w : World) :
    CallsIn F n Try.prog 27 #[.pointer p, .int .u32 u] w fun e w' => e = .returned (.func (.func 32) #[] #[.pointer (some ⟨w.heap.size, 0, none⟩), .pointer (some ⟨w.heap.size + 1, 0, none⟩)]) ∧ w' = (w.alloc (.cells #[.pointer p] 25)).alloc (.cells #[.int .u32 (u : Int)] 28) := by
  refine callsIn_of_wp Try.func27 rfl h5 ?_ hro
  simp only [Try.ntmps27, List.size_toArray, List.length_cons, List.length_nil, Nat.reduceAdd, Nat.reduceSub, Array.replicate_succ, Array.replicate_zero, List.push_toArray, List.append_toArray, List.nil_append, List.cons_append]
  gi_wp2
  go_ret
  exact ⟨rfl, rfl⟩

set_option maxRecDepth 100000 in
set_option maxHeartbeats 2000000 in
theorem from1_in (n : Nat) (hn : 1 ≤ n) (y b1 b2 u : Nat) (hl : l.length ≤ 100000) (hgr : p = none ∨ (g < n₀ ∧ r < n₀)) (J Jx : List Nat → World → Prop)
    (hY : ∀ (pre : List Nat) (x : Nat) (W : World), J pre W → pre.length < (l.drop (cntL l u)).length → YieldAt Fence.wide (n - 1) Try.prog y #[.int .u32 (x : Int)] W fun e W' =>
      (e = .returned (.bool true) ∧ J (pre ++ [x]) W' ∧ KpI n₀ W W') ∨ (e = .returned (.bool false) ∧ Jx (pre ++ [x]) W'))
    (W : World) (hJ : AbidesFrom W.heap.size J) (hn0 : n₀ ≤ W.heap.size) (h1 : W.heap[b1]? = some (.cells #[.pointer p] 25 (0, 0))) (h2 : W.cell? ⟨b2, 0, none⟩ = some (.int .u32 (u : Int))) (hI : IxO p g r l W) (h0 : J [] W) :
    CallsIn Fence.wide n Try.prog 32 #[.func (.yield y) #[] #[], .pointer (some ⟨b1, 0, none⟩), .pointer (some ⟨b2, 0, none⟩)] W fun e W' => (∃ v, e = .returned v) ∧
      ((∃ ys, ys = l.drop (cntL l u) ∧ J ys W') ∨ (∃ pre, (∃ t, l.drop (cntL l u) = pre ++ t) ∧ Jx pre W')) := by
  have BF := ixobefore_any u hI
  have hk := cnt_le l u
  obtain ⟨k, hke⟩ : ∃ k, k = cntL l u := ⟨_, rfl⟩
  rw [← hke] at hY BF hk ⊢
  clear hke
  have BF := Lib.hid BF
  have hc1 : W.cell? ⟨b1, 0, none⟩ = some (.pointer p) := cell_of_row W b1 0 _ _ _ h1
  have HJ := Lib.hid hJ
  have H1 := Lib.hid h1
  have HI := Lib.hid hI
  have HJ0 := Lib.hid h0
  have HY := Lib.hid hY
  clear h1 hI hJ h0 hY
  refine callsIn_of_wp Try.func32 rfl trivial ?_ rfl
  simp only [Try.ntmps32, List.size_toArray, List.length_cons, List.length_nil, Nat.reduceAdd, Nat.reduceSub, Array.replicate_succ, Array.replicate_zero, List.push_toArray, List.append_toArray, List.nil_append, List.cons_append]
  gi_wp2_with fail
  refine ⟨trivial, ?_⟩
  refine (callsIn_wide.2 BF.out).mono ?_
  rintro e w1 ⟨rfl, hb1⟩
  have HB1 := Lib.hid hb1
  have HJ1 := Lib.hid (HJ.out [] W w1 none HJ0.out (grown_of_below hb1) (fun r e => by cases e))
  have H1' := Lib.hid ((hb1.block b1 (Array.getElem?_eq_some_iff.1 H1.out).1).trans H1.out)
  have hI1 := Lib.hid (HI.out.below hgr (hb1.mono hn0))
  have hs1 := hb1.size
  clear BF hc1 h2 hb1 HJ0 H1 HI HB1
  gi_wp2_with fail
  gi_loopw [4] (fun i wr => ∃ m : Nat, k ≤ m ∧ m ≤ l.length ∧ i = .int .i64 m ∧ Hid (J ((l.drop k).take (m - k)) wr) ∧ Hid (wr.heap[b1]? = some (.cells #[.pointer p] 25 (0, 0))) ∧ Hid (IxO p g r l wr))
    (fun i _ => l.length - (intOf i).toNat)
  case atStart => exact ⟨k, Nat.le_refl _, hk, rfl, by rw [Nat.sub_self]; exact HJ1, H1', hI1⟩
  case round =>
    obtain ⟨m, hm1, hm2, rfl, HJm, HBm, HIm⟩ := hrel
    have hc1 : wr.cell? ⟨b1, 0, none⟩ = some (.pointer p) := cell_of_row wr b1 0 _ _ _ HBm.out
    have LN := Lib.hid (ixolen_any HIm.out)
    by_cases hlt : m < l.length
    · obtain ⟨rfl, hIx⟩ : p = some ⟨g, 0, none⟩ ∧ Ix g r l wr := by
        rcases HIm.out with ⟨_, h⟩ | h
        · rw [h] at hlt; cases hlt
        · exact h
      obtain ⟨A, c, hcg, _, hS, _, _⟩ := hIx.open
      obtain ⟨b, off, rfl, hb, hx⟩ := hS.one hlt
      have HT := Lib.hid (show (l.drop k).take (m - k) ++ [l[m]] = (l.drop k).take (m + 1 - k) by
        have h9 : m - k < (l.drop k).length := by rw [List.length_drop]; omega
        have e := List.take_succ_eq_append_getElem h9
        rw [show m + 1 - k = m - k + 1 by omega, e, List.getElem_drop]
        congr 3
        omega)
      have hYm := HY.out ((l.drop k).take (m - k)) l[m] wr HJm.out (by rw [List.length_take, List.length_drop]; omega)
      have HYm := Lib.hid hYm
      clear hYm hIx hS
      generalize l[m] = x at *
      gi_wp2_with fail
      refine ⟨trivial, ?_⟩
      refine (callsIn_wide.2 LN.out).mono ?_
      rintro e w2 ⟨rfl, rfl⟩
      obtain ⟨fn, tmps, assign, body, hy, hR⟩ := HYm.out
      clear LN HYm
      gi_wp2_with fail
      refine hR.mono ?_
      rintro e W3 (⟨rfl, hJ3, hk3⟩ | ⟨rfl, hJx3⟩)
      · rw [HT.out] at hJ3
        have HJ3 := Lib.hid hJ3
        have HB3 := Lib.hid (hk3.2.box HBm.out)
        have HI3 := Lib.hid (HIm.out.below hgr hk3.1)
        clear hJ3 hk3 hR hy
        gi_wp2_with fail
        go_roundw
        case rel => exact ⟨m + 1, by omega, by omega, by go_num, HJ3, HB3, HI3⟩
        case measure => simp [intOf]; omega
      · have HJx3 := Lib.hid hJx3
        clear hJx3 hR hy
        gi_wp2_with fail
        refine bodyPost_ret (results_none rfl _ _ _) rfl ?_
        refine ⟨⟨_, rfl⟩, .inr ⟨_, ⟨l.drop (m + 1), ?_⟩, HJx3.out⟩⟩
        rw [HT.out]
        have e9 : l.drop (m + 1) = (l.drop k).drop (m + 1 - k) := by rw [List.drop_drop]; congr 1; omega
        rw [e9, List.take_append_drop]
    · obtain rfl : m = l.length := by omega
      have HT := Lib.hid (show J (l.drop k) wr by
        have h9 : (l.drop k).take (l.length - k) = l.drop k := List.take_of_length_le (by rw [List.length_drop]; exact Nat.le_refl _)
        have := HJm.out
        rwa [h9] at this)
      gi_wp2_with fail
      refine ⟨trivial, ?_⟩
      refine (callsIn_wide.2 LN.out).mono ?_
      rintro e w2 ⟨rfl, rfl⟩
      gi_wp2_with fail
      go_end0
      exact ⟨⟨_, rfl⟩, .inl ⟨_, rfl, HT.out⟩⟩

theorem from_stops (n : Nat) (hn : 1 ≤ n) (b1 b2 u : Nat) (hl : l.length ≤ 100000) (w : World) (hn0 : n₀ ≤ w.heap.size) (hgr : p = none ∨ (g < n₀ ∧ r < n₀)) (h1 : w.heap[b1]? = some (.cells #[.pointer p] 25 (0, 0))) (h2 : w.heap[b2]? = some (.cells #[.int .u32 (u : Int)] 28 (0, 0))) (hI : IxO p g r l w) :
    SeqStopsK Fence.wide n Try.prog 32 #[.pointer (some ⟨b1, 0, none⟩), .pointer (some ⟨b2, 0, none⟩)] (fun x : Nat => #[Value.int .u32 (x : Int)]) (KpI n₀) (fun ys => ys = l.drop (cntL l u)) (fun pre => ∃ t, l.drop (cntL l u) = pre ++ t) (l.drop (cntL l u)).length w := fun y J Jx W hW hJ _ hY h0 =>
  from1_in n hn y b1 b2 u hl hgr J Jx hY W hJ (Nat.le_trans hn0 hW.size) ((hW.block b1 (Array.getElem?_eq_some_iff.1 h1).1).trans h1) (cell_of_row W b2 0 _ _ _ ((hW.block b2 (Array.getElem?_eq_some_iff.1 h2).1).trans h2)) (hI.below hgr (hW.mono hn0)) h0
end Go.Proofs.Ytkehlknnonppjaa
