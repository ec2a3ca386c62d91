/- index: Between. -/
import Derived.Test.YtkehlknnonppjaaIxF
namespace Go.Proofs.Ytkehlknnonppjaa
open Go.RowKit Go.Shelf
attribute [local go_sem] Oper.semAt_some

/-- The identifiers in a range. -/
def betL (l : List Nat) (lo hi : Nat) : List Nat := l.filter fun y => decide (lo ≤ y) && decide (y ≤ hi)
theorem drop_cnt {l : List Nat} (lo : Nat) (ha : l.Pairwise (· < ·)) : l.drop (cntL l lo) = l.filter fun y => decide (lo ≤ y) := by
  induction l with
  | nil => rfl
  | cons x l ih =>
    have h := List.pairwise_cons.1 ha
    by_cases hx : lo ≤ x
    · have e : cntL (x :: l) lo = 0 := cnt_high (fun y hy => by
        rcases List.mem_cons.1 hy with rfl | hy
        · exact hx
        · have := h.1 y hy; omega)
      rw [e, List.drop_zero, List.filter_eq_self.2 (fun y hy => by
        rcases List.mem_cons.1 hy with rfl | hy
        · simpa using hx
        · have := h.1 y hy; simp; omega)]
    · have e : cntL (x :: l) lo = cntL l lo + 1 := by
        unfold cntL
        rw [List.countP_cons_of_pos (by simpa using hx)]
      rw [e, List.drop_succ_cons, ih h.2, List.filter_cons_of_neg (by simpa using hx)]
theorem bet_all {l ys : List Nat} {lo hi : Nat} (h : l.filter (fun y => decide (lo ≤ y)) = ys) (hh : ∀ y ∈ ys, y ≤ hi) : betL l lo hi = ys := by
  unfold betL
  rw [← h] at hh ⊢
  refine List.filter_congr fun y hy => ?_
  by_cases hl : lo ≤ y
  · have := hh y (List.mem_filter.2 ⟨hy, by simpa using hl⟩)
    simp [hl, this]
  · simp [hl]
theorem bet_stop {l pre t : List Nat} {x lo hi : Nat} (ha : l.Pairwise (· < ·)) (h : l.filter (fun y => decide (lo ≤ y)) = (pre ++ [x]) ++ t) (hh : ∀ y ∈ pre, y ≤ hi) (hx : hi < x) : betL l lo hi = pre := by
  have e : betL l lo hi = (l.filter (fun y => decide (lo ≤ y))).filter fun y => decide (y ≤ hi) := by
    unfold betL
    rw [List.filter_filter]
    refine List.filter_congr fun y _ => ?_
    rw [Bool.and_comm]
  have ha2 := ha.filter (fun y => decide (lo ≤ y))
  rw [e]
  rw [h] at ha2 ⊢
  rw [List.append_assoc] at ha2 ⊢
  have h3 := (List.pairwise_append.1 ha2).2.1
  have h4 := (List.pairwise_cons.1 h3).1
  rw [List.filter_append, List.filter_eq_self.2 (fun y hy => by simpa using hh y hy), List.filter_eq_nil_iff.2 (fun y hy => by
    rcases List.mem_append.1 hy with hy | hy
    · obtain rfl : y = x := by simpa using hy
      simp; omega
    · have := h4 y hy
      simp; omega), List.append_nil]
theorem flatL_map (l : List Nat) : flatL encU l = l.map fun (n : Nat) => Value.int .u32 (n : Int) := by
  induction l with
  | nil => rfl
  | cons x l ih =>
    show encU x ++ flatL encU l = _
    rw [ih]
    rfl

variable {p : Option Addr} {g r : Nat} {l : List Nat} {w w' : World}
/-- What the loop has collected: the box of the list, the box of the bound. -/
def Got (n₀ hi : Nat) (w : World) (pre : List Nat) (W : World) : Prop :=
  (∃ v, Boxed W (n₀ + 1) 22 v ∧ W.ownsRow (n₀ + 2) 28 1 v pre.length (pre.map fun (n : Nat) => Value.int .u32 (n : Int)) ∧ ∀ y ∈ pre, y ≤ hi) ∧ Boxed W n₀ 28 (.int .u32 (hi : Int)) ∧ Below n₀ w W
theorem got_own (n₀ hi B : Nat) (w : World) (h1 : n₀ ≤ w.heap.size) (h2 : n₀ ≤ B) : OwnFrom B (Got n₀ hi w) :=
  OwnFrom.and (Own.from (holdsRow_own (n₀ + 2) (n₀ + 1) 22 28 1 (fun pre => pre.length) (fun (pre : List Nat) => pre.map fun (n : Nat) => Value.int .u32 (n : Int)) (fun pre _ => ∀ y ∈ pre, y ≤ hi)) _)
    (OwnFrom.and (Own.from (boxed_own n₀ 28 (fun _ => .int .u32 (hi : Int))) _) (ownFrom_below h1 h2))
theorem own_mono' {w : World} {base base' : Nat} {e : TypeId} {size n : Nat} {v : Value} {xs : List Value} (h : w.ownsRow base e size v n xs) (hb : base' ≤ base) : w.ownsRow base' e size v n xs := own_mono h hb

set_option maxRecDepth 100000 in
set_option maxHeartbeats 4000000 in
theorem between_any (lo hi : Nat) (h : IxO p g r l w) (hgr : p = none ∨ (g < w.heap.size ∧ r < w.heap.size)) (hl : l.length ≤ 100000) (ha : l.Pairwise (· < ·)) :
    Calls Try.prog 21 #[.pointer p, .int .u32 lo, .int .u32 hi] w fun e w' => ∃ v, e = .returned v ∧ w'.ownsRow w.heap.size 28 1 v (betL l lo hi).length (flatL encU (betL l lo hi)) ∧ Below w.heap.size w w' := by
  obtain ⟨i0, hi0, hz0, hz1, hz2⟩ := info_parts infoU
  have HD := Lib.hid (drop_cnt lo ha)
  have HA := Lib.hid ha
  obtain ⟨W2, hW2⟩ : ∃ W2, W2 = (w.alloc (.cells #[.int .u32 (hi : Int)] 28)).alloc (.cells #[.slice none 0 0] 22) := ⟨_, rfl⟩
  obtain ⟨W4, hW4⟩ : ∃ W4, W4 = (W2.alloc (.cells #[.pointer p] 25)).alloc (.cells #[.int .u32 (lo : Int)] 28) := ⟨_, rfl⟩
  have hs2 : W2.heap.size = w.heap.size + 2 := by rw [hW2]; simp
  have hs4 : W4.heap.size = w.heap.size + 4 := by rw [hW4]; simp; omega
  have hB2 : Below w.heap.size w W2 := by rw [hW2]; exact below_next (below_al w _) (below_al _ _)
  have hB24 : Below W2.heap.size W2 W4 := by rw [hW4]; exact below_next (below_al _ _) (below_al _ _)
  have hB4 : Below w.heap.size w W4 := below_next hB2 hB24
  have c5 : Boxed W2 w.heap.size 28 (.int .u32 (hi : Int)) := by rw [hW2]; exact (Boxed.new w _ _).alloc _
  have c7 : Boxed W2 (w.heap.size + 1) 22 (.slice none 0 0) := by
    rw [hW2]
    have := Boxed.new (w.alloc (.cells #[.int .u32 (hi : Int)] 28)) 22 (.slice none 0 0)
    simpa using this
  have k5 : Boxed W4 w.heap.size 28 (.int .u32 (hi : Int)) := by rw [hW4]; exact (c5.alloc _).alloc _
  have k7 : Boxed W4 (w.heap.size + 1) 22 (.slice none 0 0) := by rw [hW4]; exact (c7.alloc _).alloc _
  have b1 : W4.heap[w.heap.size + 2]? = some (.cells #[.pointer p] 25 (0, 0)) := by
    rw [hW4]
    have := (Boxed.new W2 25 (.pointer p)).alloc (.cells #[.int .u32 (lo : Int)] 28)
    rw [hs2] at this
    exact this
  have b2 : W4.heap[w.heap.size + 3]? = some (.cells #[.int .u32 (lo : Int)] 28 (0, 0)) := by
    rw [hW4]
    have := Boxed.new (W2.alloc (.cells #[.pointer p] 25)) 28 (.int .u32 (lo : Int))
    rw [World.size_alloc, hs2] at this
    exact this
  have ST := Lib.hid (from_stops 2 (by omega) (w.heap.size + 2) (w.heap.size + 3) lo hl W4 (by omega) hgr b1 b2 (h.below hgr hB4))
  have FR := Lib.hid (from_in (p := p) Fence.wide 2 trivial rfl lo W2)
  rw [hs2] at FR
  rw [← hW4] at FR
  have G0 := Lib.hid (show Got w.heap.size hi w [] W4 from ⟨⟨_, k7, World.ownsRow_nil _ _ _ _, by simp⟩, k5, hB4⟩)
  have GO := Lib.hid (got_own w.heap.size hi W4.heap.size w (Nat.le_refl _) (by omega))
  clear h hB2 hB24 c5 c7 k5 k7 b1 b2 hB4 hW4
  refine (callsIn_wide (n := 3)).1 ?_
  refine callsIn_of_wp_marks Try.func21 rfl trivial ?_ rfl
  simp only [Try.ntmps21, List.size_toArray, List.length_cons, List.length_nil, Nat.reduceAdd, Nat.reduceSub, Array.replicate_succ, Array.replicate_zero, List.push_toArray, List.append_toArray, List.nil_append, List.cons_append]
  subst hW2
  gi_wp2_with fail
  refine ⟨trivial, ?_⟩
  refine FR.out.mono ?_
  rintro e w7 ⟨rfl, rfl⟩
  gi_wp2_with fail
  refine wpIn_rangeFunc_ownF rfl (by omega) (gf := 32) (lb := #[.pointer (some ⟨w.heap.size + 2, 0, none⟩), .pointer (some ⟨w.heap.size + 3, 0, none⟩)]) rfl trivial (enters_of Try.func32 (by kernel_rfl) rfl)
    ST.out kpI_t (kpI_b (by omega)) (Below.refl _ _) (fun _ => rfl)
    (Got w.heap.size hi w)
    (fun c pre W => c = .exit 0 ∧ ∃ pre' x, pre = pre' ++ [x] ∧ hi < x ∧ Got w.heap.size hi w pre' W)
    GO.out
    (fun c s A B row hs hg hr => ⟨hs.1, by
      obtain ⟨pre', x, h1, h2, h3⟩ := hs.2
      exact ⟨pre', x, h1, h2, GO.out pre' A B row h3 hg hr⟩⟩)
    G0.out
    ?a1 ?assign ?body ?done ?stop
  case assign =>
    intro l x W K hK
    gi_wp2
    exact hK
  case body =>
    rintro y pre x W hG hlt
    obtain ⟨⟨v, hv', hrow, hle⟩, h5, hB'⟩ := hG
    have hc5 := h5.cell
    have hc7 := hv'.cell
    have hf7 := hv'.frozen
    have hlt7 := hv'.lt
    by_cases hx : hi < x
    · have hxi : (hi : Int) < (x : Int) := by omega
      have HG := Lib.hid (show Got w.heap.size hi w pre W from ⟨⟨v, hv', hrow, hle⟩, h5, hB'⟩)
      clear hv' hrow hle h5 hB'
      gi_wp2_with fail
      exact ⟨KeepsOthers.refl _, rfl, pre, x, rfl, hx, HG.out⟩
    · have hxi : ¬ (hi : Int) < (x : Int) := by omega
      have hpl : pre.length < 100000 := by rw [List.length_drop] at hlt; omega
      have FIN := Lib.hid (fun (v2 : Value) (w8 : World) (hown' : w8.ownsRow (w.heap.size + 2) 28 1 v2 (pre.length + 1) ((pre.map fun (n : Nat) => Value.int .u32 (n : Int)) ++ [.int .u32 (x : Int)])) (hgrow : (W.alloc (.cells #[.int .u32 (x : Int)] 28)).grownBy w8 v.ownBlock) => show
          (Boxed w8 (w.heap.size + 1) 22 v) ∧ KeepsOthers W (w8.setCell ⟨w.heap.size + 1, 0, none⟩ v2) ∧ KpI w.heap.size W (w8.setCell ⟨w.heap.size + 1, 0, none⟩ v2) ∧ Got w.heap.size hi w (pre ++ [x]) (w8.setCell ⟨w.heap.size + 1, 0, none⟩ v2) from by
        obtain ⟨hv1, hv2, _, hk2, hb2⟩ := hv'.appended (n₀ := w.heap.size) (by decide) (own_mono' hrow (by omega)) (by omega) (by omega) (own_mono' hown' (by omega)) hgrow
        have h5' : Boxed w8 w.heap.size 28 (.int .u32 (hi : Int)) := (h5.alloc _).kept hgrow (fun e => by
          have := (hrow.lt _ e.symm).1
          omega)
        have hkt := (KeepsT.app (T := 25) hrow (by decide) hgrow).set_ hv1 (by decide) v2
        refine ⟨hv1, hk2, ⟨hb2, hkt⟩, ⟨v2, hv2, ?_, fun z hz => ?_⟩, h5'.other (by omega) _, hB'.trans hb2⟩
        · rw [List.length_append, List.map_append]
          exact hown'.kept (grownBy_setCell' w8 _ v2) (.inr (fun e => by
            have := (hown'.lt _ e).1
            omega))
        · rcases List.mem_append.1 hz with hz | hz
          · exact hle z hz
          · obtain rfl : z = x := by simpa using hz
            omega)
      have HRW := Lib.hid (hrow.alloc (.cells #[.int .u32 (x : Int)] 28))
      clear hv' hrow hle h5 hB'
      gi_wp2_with (gi_at_builtin; refine wpListIn_append_own _ rfl _ _ 22 rfl (w.heap.size + 2) 28 i0 (.int .u32 0) 1 4 Try.underlying22 hi0 hz0 hz1 hz2 rfl (by decide) _ _ _ rfl HRW.out ⟨W.heap.size, 0, none⟩ 1 1 [.int .u32 (x : Int)] rfl rfl (cell_one_new _ _ _) (by simp [Value.oneCell']) (by unfold maxLen; omega) (by omega) (by simp; omega) ?_; intro v2 w8 hown' hgrow _; obtain ⟨g', cap', rfl⟩ := ownsRow_succ hown'; have FN := Lib.hid (FIN.out _ w8 hown' hgrow); have hc1 := FN.out.1.cell; have hf1 := FN.out.1.frozen)
      exact ⟨FN.out.2.1, FN.out.2.2.1, FN.out.2.2.2⟩
  case done =>
    rintro D ys W hD rfl hG hK
    obtain ⟨⟨v, hv', hrow, hle⟩, _, hB'⟩ := hG
    have hc := hv'.cell
    have E := Lib.hid (bet_all HD.out.symm hle)
    gi_wp2
    refine ⟨by simp, .inl ⟨_, _, rfl, run_takeDeferred hK, ?_⟩⟩
    refine ⟨_, results_tmp rfl _ _ _, v, rfl, ?_, hB'.trans (belowK_b (w := w) (Nat.le_refl _) W D _ _ (by omega) hK rfl rfl)⟩
    rw [E.out, flatL_map]
    exact ownsRow_putObj (own_mono' hrow (by omega)) _ hK rfl
  case stop =>
    rintro D c pre W hD ⟨t, hp⟩ ⟨rfl, pre', x, rfl, hx, hG⟩ hK
    obtain ⟨⟨v, hv', hrow, hle⟩, _, hB'⟩ := hG
    have hc := hv'.cell
    have E := Lib.hid (bet_stop HA.out (HD.out.symm.trans hp) hle hx)
    clear hp
    gi_wp2
    refine ⟨by simp, .inl ⟨_, _, rfl, run_takeDeferred hK, ?_⟩⟩
    refine ⟨_, results_tmp rfl _ _ _, v, rfl, ?_, hB'.trans (belowK_b (w := w) (Nat.le_refl _) W D _ _ (by omega) hK rfl rfl)⟩
    rw [E.out, flatL_map]
    exact ownsRow_putObj (own_mono' hrow (by omega)) _ hK rfl
end Go.Proofs.Ytkehlknnonppjaa
