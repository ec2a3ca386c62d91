/- The reference's Of: the sorted numbers in as few ranges as possible. -/
import Derived.Test.YtdgcghcigjblaaaDoorSorted
import Derived.Test.YtdgcghcigjblaaaDoorJoin
namespace Go.Proofs.YtdgcghcigjblaaaDoor
open Go.RowKit
attribute [local go_sem ↓] Go.wp_at_zero Go.wp_at_succ

/-- What the numbers so far have come to. -/
def RunOf (T : List Nat) (J : List R) : Prop := canon J ∧ (∀ n, memL J n ↔ n ∈ T) ∧ J.length ≤ T.length ∧ (∀ y, T.getLast? = some y → ∃ J' q, J = J' ++ [q] ∧ q.2 = y)

theorem run_nil : RunOf [] [] := ⟨canon_nil, fun n => ⟨fun h => absurd h (memL_nil n), fun h => by cases h⟩, Nat.le_refl _, fun y h => by cases h⟩
theorem run_one {x : Nat} (h1 : 1 ≤ x) (h2 : x ≤ 4294967295) : RunOf [x] [(x, x)] :=
  ⟨canon_one ⟨h1, Nat.le_refl _, h2⟩, fun n => by rw [memL_one, List.mem_singleton]; show x ≤ n ∧ n ≤ x ↔ n = x; omega, Nat.le_refl _, fun y h => ⟨[], (x, x), rfl, by simpa using h⟩⟩
theorem run_in {T : List Nat} {J : List R} {q : R} {x : Nat} (h : RunOf T (J ++ [q])) (hq : q.2 + 1 = x) (h2 : x ≤ 4294967295) : RunOf (T ++ [x]) (J ++ [(q.1, x)]) := by
  obtain ⟨hc, hm, hl, _⟩ := h
  obtain ⟨c1, c2, c3⟩ := canon_snoc hc
  refine ⟨canon_of c1 ⟨c2.1, by have := c2.2.1; show q.1 ≤ x; omega, h2⟩ c3, fun n => ?_, by simp at hl ⊢; omega, fun y h => ⟨J, (q.1, x), rfl, by simpa using h⟩⟩
  have := hm n
  rw [memL_append, memL_one] at this ⊢
  rw [List.mem_append, List.mem_singleton, ← this]
  have hle := c2.2.1
  show _ ∨ (q.1 ≤ n ∧ n ≤ x) ↔ (_ ∨ (q.1 ≤ n ∧ n ≤ q.2)) ∨ n = x
  constructor
  · rintro (h | h)
    · exact .inl (.inl h)
    · by_cases hn : n = x
      · exact .inr hn
      · exact .inl (.inr ⟨h.1, by omega⟩)
  · rintro ((h | h) | h)
    · exact .inl h
    · exact .inr ⟨h.1, by omega⟩
    · exact .inr ⟨by omega, by omega⟩
theorem run_out {T : List Nat} {J : List R} {q : R} {x : Nat} (h : RunOf T (J ++ [q])) (hq : q.2 + 1 < x) (h2 : x ≤ 4294967295) : RunOf (T ++ [x]) ((J ++ [q]) ++ [(x, x)]) := by
  obtain ⟨hc, hm, hl, _⟩ := h
  obtain ⟨c1, c2, c3⟩ := canon_snoc hc
  refine ⟨canon_of hc ⟨by show 1 ≤ x; omega, Nat.le_refl _, h2⟩ (fun a ha => ?_), fun n => ?_, by simp at hl ⊢; omega, fun y h => ⟨J ++ [q], (x, x), rfl, by simpa using h⟩⟩
  · show a.2 + 1 < x
    rcases List.mem_append.1 ha with ha | ha
    · have := c3 a ha
      have := c2.2.1
      omega
    · obtain rfl : a = q := by simpa using ha
      exact hq
  · rw [memL_append, hm n, memL_one, List.mem_append, List.mem_singleton]
    show _ ∨ (x ≤ n ∧ n ≤ x) ↔ _
    constructor
    · rintro (h | h)
      · exact .inl h
      · exact .inr (by omega)
    · rintro (h | h)
      · exact .inl h
      · exact .inr (by omega)

theorem one_flatRa (l : List R) : ∀ u ∈ flatL encR l, u.oneCell' = true := by
  intro u hu
  unfold flatL at hu
  obtain ⟨r, _, hr⟩ := List.mem_flatMap.1 hu
  exact encR_one r u hr
theorem slAt_x2 (w : World) (x y : Nat) : SlAt encR 2 (w.alloc (.cells #[.int .u32 (x : Int), .int .u32 (y : Int)] 32)) (some ⟨w.heap.size, 0, none⟩) [(x, y)] := by
  refine .inr ⟨w.heap.size, 0, rfl, by simp, fun j r hj i v hi => ?_⟩
  obtain rfl : j = 0 := by
    have := (List.getElem?_eq_some_iff.1 hj).1
    simpa using this
  obtain rfl : (x, y) = r := by simpa using hj
  have hi2 : i = 0 ∨ i = 1 := by
    have := (List.getElem?_eq_some_iff.1 hi).1
    simp [encR] at this
    omega
  rcases hi2 with rfl | rfl
  · obtain rfl : v = .int .u32 (x : Int) := by simpa [encR] using hi.symm
    simp
  · obtain rfl : v = .int .u32 (y : Int) := by simpa [encR] using hi.symm
    simp

set_option maxRecDepth 100000 in
set_option maxHeartbeats 4000000 in
theorem refOf_any (A : Option Addr) (c : Nat) (l : List Nat) (hlen : l.length ≤ 1000000000) (hl : ∀ n ∈ l, n ≤ 4294967295) (w : World) (hS : SlAt encU 1 w A l) :
    Calls Tryd.prog 21 #[.slice A l.length c] w fun e w' => ∃ (J : List R) (v : Value), e = .returned v ∧ canon J ∧ (∀ n, memL J n ↔ n ∈ l ∧ 0 < n) ∧ J.length ≤ l.length ∧
      w'.ownsRow w.heap.size 32 2 v J.length (flatL encR J) ∧ Below w.heap.size w w' := by
  obtain ⟨i0, hi, hz0, hz1, hz2⟩ := info_parts infoR
  have SO := Lib.hid (sorted_any A c l hlen hl w hS)
  have HL := Lib.hid hl
  clear hl hS
  go_enter Tryd.func21, Tryd.ntmps21
  go_wp2_with fail
  refine SO.out.mono ?_
  rintro e w1 ⟨O, vO, rfl, hasc, hmem, hOl, hOr, hB1⟩
  obtain ⟨AO, cO, rfl⟩ := own_any hOr
  have HM := Lib.hid hmem
  have HA := Lib.hid hasc
  have HO := Lib.hid (SlAt.of_own encU_len hOr)
  have HB := Lib.hid hB1
  have hszw := hB1.size
  clear SO hmem hasc hOr hB1
  go_wp2_with fail
  go_loopw [3, 5] (fun v i wr => ∃ (k : Nat) (J : List R), k ≤ O.length ∧ i = .int .i64 k ∧ RunOf (O.take k) J ∧ wr.ownsRow w1.heap.size 32 2 v J.length (flatL encR J) ∧ Below w1.heap.size w1 wr)
    (fun _ i _ => O.length - (intOf i).toNat)
  case atStart => exact ⟨0, [], Nat.zero_le _, rfl, run_nil, World.ownsRow_nil _ _ _ _, Below.refl _ _⟩
  case round =>
    obtain ⟨k, J, hk, rfl, hrun, hrow, hB⟩ := hrel
    by_cases hlt : k < O.length
    · obtain ⟨g, off, rfl, hg, hc0w⟩ := HO.out.one hlt
      have hc0 := (hB.cell (p := ⟨g, off + k, none⟩) hg).trans hc0w
      have hx1 := (HM.out O[k]).1 (List.getElem_mem _)
      have hxl := HL.out _ hx1.1
      have hx0 := hx1.2
      have HT := Lib.hid (List.take_succ_eq_append_getElem hlt)
      have HR := Lib.hid hrow
      clear hx1
      have hJl : J.length ≤ k := Nat.le_trans hrun.2.2.1 (List.length_take_le _ _)
      have HU := Lib.hid hrun
      clear hrun
      rcases Nat.eq_zero_or_pos k with h0 | h0
      · subst h0
        generalize O[0] = x at *
        obtain rfl : J = [] := List.eq_nil_of_length_eq_zero (by omega)
        obtain ⟨A', c', rfl⟩ := own_any hrow
        clear hrow
        have hf : decide ((0 : Int) < ((0 : Nat) : Int)) = false := rfl
        go_wp2_with fail
        go_quiet (fail)
        go_wp2_with fail
        have hc0w' : w1.cell? ⟨g, off, none⟩ = some (.int .u32 (x : Int)) := by simpa using hc0w
        have hk0 : (0 : Int) ≤ ((0 : Nat) : Int) := by omega
        have hk1 : ((0 : Nat) : Int) < (O.length : Int) := by omega
        go_region_held3 (fun w' => w'.cell? ⟨g, off, none⟩ = some (.int .u32 (x : Int)) ∧ Below w1.heap.size w1 w')
          ((refine keepS hg hc0w' ?_; repeat (first | assumption | exact Below.refl _ _ | refine belowDrawN ?_ _ | refine belowDraw ?_ | refine belowAlloc ?_ _)))
          ((refine step_append_slm _ (by rfl) _ _ _ (by rfl) w1.heap.size 32 i0 _ 8 Tryd.underlying22 hi hz0 hz1 hz2 rfl (by decide) _ 0 (flatL encR []) (by rfl) (HR.out.alloc _) _ [(x, x)] _ _ (by rfl) (by rfl) encR_len (slAt_x2 _ _ _) (one_flatRa _) (by simp only [List.length_singleton, maxLen]; omega) (by simp only [List.length_singleton]; omega) (bsz (a := w1) (by repeat (first | assumption | exact Below.refl _ _ | refine belowDrawN ?_ _ | refine belowDraw ?_ | refine belowAlloc ?_ _))) ?_; intro v3 w3 hown3 hgrow3; have hB3 : Below w1.heap.size w1 w3 := bgr (a := w1) (by repeat (first | assumption | exact Below.refl _ _ | refine belowDrawN ?_ _ | refine belowDraw ?_ | refine belowAlloc ?_ _)) hgrow3 (fun kk hkk => (HR.out.lt kk hkk).1)))
        have HO3 := Lib.hid hown3
        have HB3 := Lib.hid hB3
        clear hown3 hB3 hgrow3
        go_wp2_with fail
        go_roundw
        case rel => exact ⟨0 + 1, [(x, x)], by omega, by go_num, by rw [HT.out]; exact run_one hx0 hxl, by exact HO3.out, HB3.out⟩
        case measure => simp [intOf]; omega
      · obtain ⟨p, rfl⟩ : ∃ p, k = p + 1 := ⟨k - 1, by omega⟩
        have hpl : p < O.length := by omega
        obtain ⟨g', off', hgo, _, hc1w⟩ := HO.out.one hpl
        injection hgo with hgo
        injection hgo with hgo1 hgo2
        subst hgo1
        subst hgo2
        have hc1 := (hB.cell (p := ⟨g, off + p, none⟩) hg).trans hc1w
        clear hc1w
        have hyx := List.pairwise_iff_getElem.1 HA.out p (p + 1) hpl hlt (Nat.lt_succ_self p)
        have hlast : (O.take (p + 1)).getLast? = some O[p] := by rw [List.take_succ_eq_append_getElem hpl, List.getLast?_concat]
        obtain ⟨J', q, hJq, hq2⟩ := HU.out.2.2.2 _ hlast
        have hrow2 := hrow
        subst hJq
        rw [List.length_append, List.length_singleton] at hrow2
        obtain ⟨gj, cap', rfl⟩ := ownsRow_succ hrow2
        clear hrow hlast
        have hle2 : J'.length + 1 ≤ p + 1 := by rw [List.length_append, List.length_singleton] at hJl; exact hJl
        clear hJl
        have hq1 : wr.cell? ⟨gj, J'.length * 2 + 1, none⟩ = some (.int .u32 (q.2 : Int)) := by
          rw [hrow2.cellAt _ (by omega)]
          exact flatL_at encR_len (J' ++ [q]) J'.length q (by simp) 1 _ rfl
        have hq1f := hrow2.frozenAt (J'.length * 2 + 1)
        have hgw := hrow2.lt gj rfl
        have HQ := Lib.hid hq2
        have HR2 := Lib.hid hrow2
        clear hrow2 hq2
        generalize O[p] = y at *
        generalize O[p + 1] = x at *
        by_cases hxy : x = y + 1
        · have hb1 : ((x : Int) == (y : Int) + 1) = true := by simp; omega
          go_wp2_with fail
          go_quiet (fail)
          go_wp2_with fail
          have ho := HR2.out.stored (J'.length * 2 + 1) (.int .u32 ((y + 1 : Nat) : Int))
          rw [← flat_set J' q.1 q.2 (y + 1)] at ho
          have HO3 := Lib.hid ho.1
          have HB3 := Lib.hid ((belowDrawN hB nq).setCell (p := ⟨gj, J'.length * 2 + 1, none⟩) hgw.1 (.int .u32 ((y + 1 : Nat) : Int)))
          clear ho
          go_roundw
          case rel => exact ⟨p + 1 + 1, J' ++ [(q.1, y + 1)], by omega, by go_num, by rw [HT.out, hxy]; exact run_in HU.out (by rw [HQ.out]) (by omega), by rw [List.length_append, List.length_singleton]; exact HO3.out, HB3.out⟩
          case measure => simp [intOf]; omega
        · have hb1 : ((x : Int) == (y : Int) + 1) = false := by simp; omega
          go_wp2_with fail
          go_quiet (fail)
          go_wp2_with fail
          have hk0 : (0 : Int) ≤ (p : Int) + 1 := by omega
          have hk1 : (p : Int) + 1 < (O.length : Int) := by omega
          go_region_held3 (fun w' => w'.cell? ⟨g, off + (p + 1), none⟩ = some (.int .u32 (x : Int)) ∧ Below w1.heap.size w1 w')
            ((refine keepS hg hc0w ?_; repeat (first | assumption | exact Below.refl _ _ | refine belowDrawN ?_ _ | refine belowDraw ?_ | refine belowAlloc ?_ _)))
            ((refine step_append_slm _ (by rfl) _ _ _ (by rfl) w1.heap.size 32 i0 _ 8 Tryd.underlying22 hi hz0 hz1 hz2 rfl (by decide) _ (J'.length + 1) (flatL encR (J' ++ [q])) (by rfl) (HR2.out.alloc _) _ [(x, x)] _ _ (by rfl) (by rfl) encR_len (slAt_x2 _ _ _) (one_flatRa _) (by simp only [List.length_singleton, maxLen]; omega) (by simp only [List.length_singleton]; omega) (bsz (a := w1) (by repeat (first | assumption | exact Below.refl _ _ | refine belowDrawN ?_ _ | refine belowDraw ?_ | refine belowAlloc ?_ _))) ?_; intro v3 w3 hown3 hgrow3; have hB3 : Below w1.heap.size w1 w3 := bgr (a := w1) (by repeat (first | assumption | exact Below.refl _ _ | refine belowDrawN ?_ _ | refine belowDraw ?_ | refine belowAlloc ?_ _)) hgrow3 (fun kk hkk => (HR2.out.lt kk hkk).1)))
          have HO3 := Lib.hid hown3
          have HB3 := Lib.hid hB3
          clear hown3 hB3 hgrow3
          go_wp2_with fail
          go_roundw
          case rel => exact ⟨p + 1 + 1, (J' ++ [q]) ++ [(x, x)], by omega, by go_num, by rw [HT.out]; exact run_out HU.out (by rw [HQ.out]; omega) hxl, by rw [List.length_append, List.length_append, flatL_append]; exact HO3.out, HB3.out⟩
          case measure => simp [intOf]; omega
    · obtain rfl : k = O.length := by omega
      obtain ⟨A', c', rfl⟩ := own_any hrow
      obtain ⟨hc, hm, hle, _⟩ := hrun
      rw [List.take_length] at hm hle
      have HC := Lib.hid hc
      have HN := Lib.hid (fun n => (hm n).trans (HM.out n))
      have HR := Lib.hid (own_mono hrow hszw)
      have HB2 := Lib.hid (below_next HB.out hB)
      clear hc hm hrow hB
      go_wp2_with fail
      go_ret
      exact ⟨J, _, rfl, HC.out, HN.out, by omega, HR.out, HB2.out⟩
end Go.Proofs.YtdgcghcigjblaaaDoor
