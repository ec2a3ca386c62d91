/- seqset: Numbers. -/
import Derived.Test.YtdgcghcigjblaaaDoorEach
import Derived.Test.YtdgcghcigjblaaaDoorJoin
import Derived.Test.YtdgcghcigjblaaaDoorSeqHas
namespace Go.Proofs.YtdgcghcigjblaaaDoor
open Go.RowKit Go.Shelf
attribute [local go_sem] Oper.semAt_some

set_option maxHeartbeats 1000000 in
theorem each_in (F : Fence) (n : Nat) (h5 : F.fn 33) (hro : F.round = none) (a : Option Addr) (len cap : Nat) (w : World) :
    CallsIn F n Tryd.prog 33 #[.slice a len cap] w fun e w' => e = .returned (.func (.func 45) #[] #[.pointer (some ⟨w.heap.size, 0, none⟩)]) ∧ w' = w.alloc (.cells #[.slice a len cap] 22) := by
  refine callsIn_of_wp Tryd.func33 rfl h5 ?_ hro
  simp only [Tryd.ntmps33, List.size_toArray, List.length_cons, List.length_nil, Nat.reduceAdd, Nat.reduceSub, Array.replicate_succ, Array.replicate_zero, List.push_toArray, List.append_toArray, List.nil_append, List.cons_append]
  gi_wp2
  go_ret
  exact ⟨rfl, rfl⟩

theorem each_stops (F : Fence) (n : Nat) (hF : F.fn 45) (hro : F.round = none) (hn : 1 ≤ n) (Bs : Nat) (A : Option Addr) (c base : Nat) (L : List R) (hlen : L.length ≤ 1000000000) (hL : ∀ r ∈ L, r.1 ≤ r.2 ∧ r.2 ≤ 4294967295) (w : World)
    (hBs : Bs < w.heap.size) (hc : w.cell? ⟨Bs, 0, none⟩ = some (.slice A L.length c)) (hrow : w.ownsRow base 32 2 (.slice A L.length c) L.length (flatL encR L)) :
    SeqStopsK F n Tryd.prog 45 #[.pointer (some ⟨Bs, 0, none⟩)] (fun x : Nat => #[Value.int .u32 (x : Int)]) (KeepsT 32) (fun ys => ys = expandL L) (fun _ => True) (expandL L).length w := fun l J Jx W hW hJ _ hY h0 =>
  each1_in F n hF hro hn l Bs A c base L hlen hL J Jx hY W hJ ((hW.cell (p := ⟨Bs, 0, none⟩) hBs).trans hc)
    (by
      refine ⟨hrow.1, ?_⟩
      rcases hrow.2 with h1 | ⟨g, cap, cur, h1, h2, h3, h4⟩
      · exact .inl h1
      · exact .inr ⟨g, cap, cur, h1, h2, (hW.block g (Array.getElem?_eq_some_iff.1 h3).1).trans h3, h4⟩) h0

theorem infoU : (Tryd.prog.info? 30).map (fun i => (i.zero, i.size, i.bytes)) = some (some (.int .u32 0), 1, 4) := by kernel_rfl

/-- Numbers at a set that is not valid. -/
theorem numbers_bad (top : Nat) (A : Option Addr) (c : Nat) (l : List R) (hn : l.length ≤ 1000000000) (hv : vldL top l = false) (w : World) (hS : SlAt encR 2 w A l) :
    Calls Tryd.prog 16 #[.int .u32 top, .slice A l.length c] w fun e w' => e = .returned (.slice none 0 0) ∧ Below w.heap.size w w' := by
  have V := Lib.hid (valid_any top A c l hn w hS)
  rw [hv] at V
  clear hv hS
  go_enter Tryd.func16, Tryd.ntmps16
  go_wp2_with fail
  refine V.out.mono ?_
  rintro e w1 ⟨rfl, hb⟩
  clear V
  go_wp2_with fail
  go_ret
  exact ⟨rfl, hb⟩

theorem made_flat (n : Nat) : (madeCells #[.int .u32 0, .int .u32 0] (n * 2)).toList = flatL encR (List.replicate n (0, 0)) := by
  apply List.ext_getElem?
  intro j
  by_cases hj : j < n * 2
  · have e1 := flatL_get (l := List.replicate n ((0, 0) : R)) (t := j) (by simpa using hj)
    rw [e1]
    have h2 : j / 2 < n := by omega
    have hr : (List.replicate n ((0, 0) : R))[j / 2]! = (0, 0) := by
      rw [getElem!_pos (List.replicate n ((0, 0) : R)) (j / 2) (by rw [List.length_replicate]; exact h2)]
      simp
    rw [hr]
    have h3 : j % 2 = 0 ∨ j % 2 = 1 := by omega
    rcases h3 with h | h <;> simp [madeCells, hj, h, encR]
  · rw [List.getElem?_eq_none (by simp [madeCells]; omega), List.getElem?_eq_none (by rw [flatL_length encR_len]; simp; omega)]

theorem run_mkR (n : Nat) (hn : n ≤ 1000000000) (W : World) :
    (Instr.makeSlice 22 (.int .i64 (n : Int)) (.int .i64 (n : Int))).run Tryd.prog W = .ok (.slice (some ⟨W.heap.size, 0, none⟩) n n) (W.alloc (.cells (madeCells #[.int .u32 0, .int .u32 0] (n * 2)) 32)) := by
  obtain ⟨i0, hi, hz0, hz1, hz2⟩ := info_parts infoR
  have hr := run_make (P := Tryd.prog) W 22 32 i0 _ Tryd.underlying22 hi hz0 .i64 .i64 (n : Int) (n : Int) (by omega) (Int.le_refl _) (by rw [hz2]; omega) (by omega)
  simp only [Int.toNat_natCast, hz1] at hr
  exact hr

/-- The row behind k rounds: the first k done. -/
def rowL (top : Nat) (l : List R) (k : Nat) : List R := (l.take k).map (bndN top) ++ List.replicate (l.length - k) (0, 0)
theorem rowL_len (top : Nat) (l : List R) (k : Nat) (h : k ≤ l.length) : (rowL top l k).length = l.length := by simp [rowL]; omega
theorem rowL_zero (top : Nat) (l : List R) : rowL top l 0 = List.replicate l.length (0, 0) := by simp [rowL]
theorem rowL_all (top : Nat) (l : List R) : rowL top l l.length = l.map (bndN top) := by simp [rowL]
theorem rowL_succ (top : Nat) (l : List R) (k : Nat) (h : k < l.length) : flatL encR (rowL top l (k + 1)) = ((flatL encR (rowL top l k)).set (k * 2) (.int .u32 ((bndN top l[k]).1 : Int))).set (k * 2 + 1) (.int .u32 ((bndN top l[k]).2 : Int)) := by
  unfold rowL
  have hl := flatL_length encR_len ((l.take k).map (bndN top))
  have hk : ((l.take k).map (bndN top)).length = k := by simp; omega
  rw [hk] at hl
  rw [List.take_succ_eq_append_getElem h, List.map_append, show l.length - k = (l.length - (k + 1)) + 1 by omega, List.replicate_succ, List.append_assoc]
  generalize (l.take k).map (bndN top) = X at *
  generalize List.replicate (l.length - (k + 1)) ((0, 0) : R) = Z
  rw [flatL_append X ((0, 0) :: Z), flatL_append X (List.map (bndN top) [l[k]] ++ Z), List.set_append_right _ _ (by omega), hl, Nat.sub_self, List.set_append_right _ _ (by omega), hl, show k * 2 + 1 - k * 2 = 1 by omega]
  rfl

set_option maxRecDepth 100000 in
set_option maxHeartbeats 4000000 in
theorem numbers_ok (top : Nat) (htop : top ≤ 4294967295) (A : Option Addr) (c : Nat) (l : List R) (hn : l.length ≤ 1000000000) (hv : vldL top l = true) (hlim : (numsL top l).length ≤ 1000000000) (w : World) (hS : SlAt encR 2 w A l) :
    Calls Tryd.prog 16 #[.int .u32 top, .slice A l.length c] w fun e w' => ∃ v, e = .returned v ∧ w'.ownsRow w.heap.size 30 1 v (numsL top l).length ((numsL top l).map fun (n : Nat) => Value.int .u32 (n : Int)) ∧ Below w.heap.size w w' := by
  have V := Lib.hid (valid_any top A c l hn w hS)
  rw [hv] at V
  have hmk := run_mkR l.length hn
  obtain ⟨i0, hi, hz0, hz1, hz2⟩ := info_parts infoU
  refine (callsIn_wide (n := 3)).1 ?_
  refine callsIn_of_wp_marks Tryd.func16 rfl trivial ?_ rfl
  simp only [Tryd.ntmps16, List.size_toArray, List.length_cons, List.length_nil, Nat.reduceAdd, Nat.reduceSub, Array.replicate_succ, Array.replicate_zero, List.push_toArray, List.append_toArray, List.nil_append, List.cons_append]
  gi_wp2_with fail
  refine ⟨trivial, ?_⟩
  refine (callsIn_wide.2 V.out).mono ?_
  rintro e w1 ⟨rfl, hb1⟩
  have hs1 := hb1.size
  have hown0 := World.ownsRow_lit (base := w.heap.size) (e := 32) (size := 2) w1 (madeCells #[.int .u32 0, .int .u32 0] (l.length * 2)) l.length hs1 (by unfold maxLen; omega) (size_madeCells _ _)
  rw [made_flat] at hown0
  have HSw := Lib.hid hS
  gi_wp2_with fail
  have hB1 : Below w.heap.size w (w1.alloc (.cells (madeCells #[.int .u32 0, .int .u32 0] (l.length * 2)) 32)) := hb1.trans ((Below.refl _ w1).alloc hs1 _)
  have hg : w.heap.size ≤ w1.heap.size := hs1
  clear V hb1 hs1 hS
  generalize w1.alloc (.cells (madeCells #[.int .u32 0, .int .u32 0] (l.length * 2)) 32) = w2 at *
  generalize w1.heap.size = g at *
  have HO0 := Lib.hid hown0
  have HB1 := Lib.hid hB1
  have hs2 := hB1.size
  clear hown0 hB1 hmk
  gi_loopw [19] (fun i wr => ∃ k : Nat, k ≤ l.length ∧ i = .int .i64 k ∧ wr.ownsRow w.heap.size 32 2 (.slice (some ⟨g, 0, none⟩) l.length l.length) l.length (flatL encR (rowL top l k)) ∧ Below w.heap.size w wr)
    (fun i _ => l.length - (intOf i).toNat)
  case atStart => exact ⟨0, Nat.zero_le _, rfl, by rw [rowL_zero]; exact HO0.out, HB1.out⟩
  case round =>
    obtain ⟨k, hk, rfl, hown, hB⟩ := hrel
    by_cases hlt : k < l.length
    · obtain ⟨b, off, rfl, hb, hc0, hc1⟩ := (HSw.out.below hB).pair hlt
      have HR := Lib.hid (rowL_succ top l k hlt)
      generalize l[k] = r at *
      obtain ⟨lo, hi⟩ := r
      have C := fun w3 => Lib.hid (bounds_any top lo hi w3)
      dsimp only at hc0 hc1
      gi_wp2_with fail
      refine ⟨trivial, ?_⟩
      refine (callsIn_wide.2 (C _).out).mono ?_
      rintro e w4 ⟨rfl, hb4⟩
      clear C
      generalize bndN top (lo, hi) = q at *
      have hs4 := hb4.size
      simp only [World.size_alloc] at hs4
      have hB4 : Below wr.heap.size wr w4 := ((Below.refl _ wr).alloc (Nat.le_refl _) _).trans (hb4.mono (by simp))
      have hown4 := own_below hown hB4
      obtain ⟨v0, hv0⟩ : ∃ v0, (flatL encR (rowL top l k))[k * 2]? = some v0 := ⟨_, List.getElem?_eq_getElem (by rw [hown.1]; omega)⟩
      obtain ⟨v1, hv1⟩ : ∃ v1, (flatL encR (rowL top l k))[k * 2 + 1]? = some v1 := ⟨_, List.getElem?_eq_getElem (by rw [hown.1]; omega)⟩
      have hq0 := (hown4.cellAt (k * 2) (by omega)).trans hv0
      have hq1 := (hown4.cellAt (k * 2 + 1) (by omega)).trans hv1
      clear hv0 hv1
      have hf0 := hown4.frozenAt (k * 2)
      have hf1 := hown4.frozenAt (k * 2 + 1)
      have hgl := hown4.lt g rfl
      have HO4 := Lib.hid hown4
      have HB4 := Lib.hid (hB.trans (hB4.mono hB.size))
      have hgl4 := hB4.size
      clear hown4 hown hB hB4 hb4
      gi_wp2_with fail
      have hs1 := (HO4.out.stored (k * 2) (.int .u32 (q.1 : Int))).1
      have hs2 := (hs1.stored (k * 2 + 1) (.int .u32 (q.2 : Int))).1
      go_roundw
      case rel => exact ⟨k + 1, by omega, by go_num, by rw [HR.out]; exact hs2, (HB4.out.setCell (p := ⟨g, k * 2, none⟩) hg _).setCell (p := ⟨g, k * 2 + 1, none⟩) hg _⟩
      case measure => simp [intOf]; omega
    · obtain rfl : k = l.length := by omega
      rw [rowL_all] at hown
      have JJ := fun w5 h => join_any (base := w.heap.size) (some ⟨g, 0, none⟩) l.length (l.map (bndN top)) (by rw [List.length_map]; exact hn) (fun r hr => by
        obtain ⟨f1, _, f3⟩ := vldL_facts hv
        obtain ⟨q, hq, rfl⟩ := List.mem_map.1 hr
        exact (bnd_ok f1 htop (f3 q hq)).1) w5 h
      simp only [List.length_map] at JJ
      have JJ := Lib.hid (JJ _ (hown.alloc (.cells #[.slice none 0 0] 37)))
      have hbx := Boxed.new wr 37 (.slice none 0 0)
      have hB5 := hB.alloc hB.size (.cells #[.slice none 0 0] 37)
      have hB0 : w.heap.size ≤ wr.heap.size := hB.size
      have hs5 : (wr.alloc (.cells #[.slice none 0 0] 37)).heap.size = wr.heap.size + 1 := by simp
      have hgl := hown.lt g rfl
      have HX := Lib.hid hbx
      clear hown hB hbx
      gi_wp2_with fail
      refine ⟨trivial, ?_⟩
      refine (callsIn_wide.2 JJ.out).mono ?_
      rintro e w6 ⟨J, v, rfl, hJc, hJm, hJl, hJo, hJg⟩
      clear JJ
      have hEx := expand_nums hv htop hJc hJm
      obtain ⟨A6, c6, rfl⟩ := own_any hJo
      have hbx := HX.out.kept hJg (by simp [Value.ownBlock]; omega)
      have hB6 := hB5.grown hJg (by omega) (fun k hk => by simp [Value.ownBlock] at hk; omega)
      have hs6 : wr.heap.size + 1 ≤ w6.heap.size := by have := hJg.size; omega
      have hL : ∀ r ∈ J, r.1 ≤ r.2 ∧ r.2 ≤ 4294967295 := fun r hr => (hJc.1 r hr).2
      clear HX hJg hJm hJc hB5 hs5 hg hs2
      generalize wr.heap.size = B at *
      gi_wp2_with fail
      refine ⟨trivial, ?_⟩
      refine (each_in Fence.wide 2 trivial rfl _ _ _ _).mono ?_
      rintro e w7 ⟨rfl, rfl⟩
      gi_wp2_with fail
      have hB7 := hB6.alloc (by omega) (.cells #[.slice A6 J.length c6] 22)
      have hbx7 := hbx.alloc (.cells #[.slice A6 J.length c6] 22)
      have hbl7 := Boxed.new w6 22 (.slice A6 J.length c6)
      have hJo7 := hJo.alloc (.cells #[.slice A6 J.length c6] 22)
      have hel : (expandL J).length ≤ 1000000000 := by rw [hEx]; exact hlim
      refine wpIn_rangeFunc_ownG rfl (by omega) (gf := 45) (lb := #[.pointer (some ⟨w6.heap.size, 0, none⟩)]) rfl trivial (enters_of Tryd.func45 (by kernel_rfl) rfl)
        (each_stops Fence.wide 2 trivial rfl (by omega) w6.heap.size A6 c6 _ J (by omega) hL _ (by simp) hbl7.cell hJo7) keepsT_t keepsT_b (Below.refl _ _) (fun _ => rfl)
        (fun pre W => (∃ v, Boxed W B 37 v ∧ W.ownsRow w.heap.size 30 1 v pre.length (pre.map fun (n : Nat) => Value.int .u32 (n : Int)) ∧ True) ∧ Below w.heap.size w W)
        (fun _ _ _ => False)
        (OwnFrom.and (Own.from (holdsRow_own w.heap.size B 37 30 1 (fun pre => pre.length) (fun (pre : List Nat) => pre.map fun (n : Nat) => Value.int .u32 (n : Int)) (fun _ _ => True)) _) (ownFrom_below (Nat.le_refl _) (by simp; omega)))
        (fun _ _ _ _ _ hs _ _ => hs)
        ⟨⟨_, hbx7, World.ownsRow_nil _ _ _ _, trivial⟩, hB7⟩
        ?a1 ?assign ?body ?done ?stop
      case assign =>
        intro l x W K hK
        gi_wp2
        exact hK
      case body =>
        rintro l' pre x W ⟨⟨v, hv', hrow, -⟩, hB'⟩ hlt
        have hc := hv'.cell
        have hpl : pre.length < 1000000000 := by omega
        gi_wp2_with (gi_at_builtin; refine wpListIn_append_own _ rfl _ _ 37 rfl w.heap.size 30 i0 (.int .u32 0) 1 4 Tryd.underlying37 hi hz0 hz1 hz2 rfl (by decide) _ _ _ rfl (hrow.alloc _) ⟨W.heap.size, 0, none⟩ 1 1 [.int .u32 (x : Int)] rfl rfl (cell_one_new _ _ _) (by simp [Value.oneCell']) (by unfold maxLen; omega) (by omega) (by have := hB'.size; simp; omega) ?_; intro v' w8 hown' hgrow _; obtain ⟨g', cap', rfl⟩ := ownsRow_succ hown'; obtain ⟨hv1, hv2, hr2, hk2, hb2⟩ := hv'.appended (by decide) hrow hB'.size hB0 hown' hgrow; have hkt := (KeepsT.app (T := 32) hrow (by decide) hgrow).set_ hv1 (by decide) (.slice (some ⟨g', 0, none⟩) (pre.length + 1) cap'); have hc1 := hv1.cell; have hf1 := hv1.frozen)
        exact ⟨hk2.from _, hkt, ⟨_, hv2, by simpa using hr2, trivial⟩, hB'.trans hb2⟩
      case done =>
        rintro D ys W hD rfl ⟨⟨v, hv', hrow, -⟩, hB'⟩ hK
        have hc := hv'.cell
        gi_wp2
        refine ⟨by simp, .inl ⟨_, _, rfl, run_takeDeferred hK, ?_⟩⟩
        rw [hEx] at hrow
        exact ⟨_, results_tmp rfl _ _ _, v, rfl, ownsRow_putObj hrow _ hK rfl, hB'.trans (belowK_b (w := w) (Nat.le_refl _) W D _ _ (by simp at hD; omega) hK rfl rfl)⟩
      case stop =>
        rintro D c pre W _ _ h _
        exact h.elim
end Go.Proofs.YtdgcghcigjblaaaDoor
