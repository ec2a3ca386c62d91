/- The reference's Sorted: insertion, without nothing and without repeats. -/
import Derived.Test.YtefodmbaknedkaaVa
import Derived.Test.YtefodmbaknedkaaVh
import Derived.WalkKit
import Derived.Deep.RegionHeld3
import Derived.Deep.DrawnRows
import Derived.BigQuiet
import Derived.Deep.QuietTactic
import Derived.Deep.LoopGhost
import Derived.CellFam
namespace Go.Proofs.Ytefodmbaknedkaa
open Go.RowKit
attribute [local go_sem ↓] Go.wp_at_zero Go.wp_at_succ

theorem asc_ins {O : List Nat} {a x : Nat} (h : O.Pairwise (· < ·)) (ha : a ≤ O.length) (h1 : ∀ j y, a ≤ j → O[j]? = some y → x < y) (h2 : ∀ p y, a = p + 1 → O[p]? = some y → y < x) : (O.take a ++ [x] ++ O.drop a).Pairwise (· < ·) := by
  have hlow : ∀ y ∈ O.take a, y < x := by
    intro y hy
    obtain ⟨j, hj, rfl⟩ := List.mem_iff_getElem.1 hy
    rw [List.length_take] at hj
    rw [List.getElem_take]
    obtain ⟨p, rfl⟩ : ∃ p, a = p + 1 := ⟨a - 1, by omega⟩
    have hp : p < O.length := by omega
    have := h2 p _ rfl (List.getElem?_eq_getElem hp)
    rcases Nat.lt_or_ge j p with hjp | hjp
    · exact Nat.lt_trans (List.pairwise_iff_getElem.1 h j p (by omega) hp hjp) this
    · obtain rfl : j = p := by omega
      exact this
  have hhigh : ∀ y ∈ O.drop a, x < y := by
    intro y hy
    obtain ⟨j, hj, rfl⟩ := List.mem_iff_getElem.1 hy
    rw [List.getElem_drop]
    exact h1 (a + j) _ (by omega) (List.getElem?_eq_getElem _)
  refine List.pairwise_append.2 ⟨List.pairwise_append.2 ⟨h.sublist (List.take_sublist _ _), List.pairwise_singleton _ _, ?_⟩, h.sublist (List.drop_sublist _ _), ?_⟩
  · intro y hy z hz
    obtain rfl : z = x := by simpa using hz
    exact hlow y hy
  · intro y hy z hz
    have hz2 := hhigh z hz
    rcases List.mem_append.1 hy with hy | hy
    · exact Nat.lt_trans (hlow y hy) hz2
    · obtain rfl : y = x := by simpa using hy
      exact hz2
theorem mem_ins (O : List Nat) (a x n : Nat) : n ∈ O.take a ++ [x] ++ O.drop a ↔ n ∈ O ∨ n = x := by
  conv => rhs; rw [← List.take_append_drop a O]
  simp only [List.mem_append, List.mem_singleton]
  constructor
  · rintro ((h | h) | h)
    · exact .inl (.inl h)
    · exact .inr h
    · exact .inl (.inr h)
  · rintro ((h | h) | h)
    · exact .inl (.inl h)
    · exact .inr h
    · exact .inl (.inr h)
theorem len_ins (O : List Nat) (a x : Nat) (h : a ≤ O.length) : (O.take a ++ [x] ++ O.drop a).length = O.length + 1 := by
  simp only [List.length_append, List.length_take, List.length_drop, List.length_singleton]
  omega

theorem slAt_take1 {w : World} {A : Option Addr} {l : List Nat} (h : SlAt encU 1 w A l) (a : Nat) : SlAt encU 1 w A (l.take a) := by
  rcases h with rfl | ⟨b, off, hA, hb, hc⟩
  · exact .inl (by simp)
  · exact .inr ⟨b, off, hA, hb, fun j y hj i v hi => hc j y (by rw [List.getElem?_take] at hj; split at hj; exact hj; cases hj) i v hi⟩
theorem slAt_drop1 {w : World} {g : Nat} {l : List Nat} (h : SlAt encU 1 w (some ⟨g, 0, none⟩) l) (a c : Nat) (hc : l.length ≤ c) : SlAt encU 1 w (if c = a then some ⟨g, 0, none⟩ else some ⟨g, a, none⟩) (l.drop a) := by
  by_cases hca : c = a
  · exact .inl (List.drop_eq_nil_of_le (by omega))
  · rw [if_neg hca]
    rcases h with rfl | ⟨b, off, hA, hb, hcell⟩
    · exact .inl (by simp)
    · injection hA with hA
      injection hA with h1 h2
      subst h1
      subst h2
      refine .inr ⟨g, a, rfl, hb, fun j y hj i v hi => ?_⟩
      rw [List.getElem?_drop] at hj
      have := hcell (a + j) y hj i v hi
      rw [← this]
      congr 2
      omega
theorem own_ins {w : World} {base base' : Nat} {e : TypeId} {v : Value} {P S : List Nat} {x : Nat} (h : w.ownsRow base e 1 v (0 + P.length + [x].length + S.length) ([] ++ flatL encU P ++ flatL encU [x] ++ flatL encU S)) (hb : base' ≤ base) :
    w.ownsRow base' e 1 v (P ++ [x] ++ S).length (flatL encU (P ++ [x] ++ S)) := by
  have h2 := own_mono h hb
  rw [List.length_append, List.length_append, flatL_append, flatL_append]
  rw [Nat.zero_add, List.nil_append] at h2
  exact h2
theorem keepS {a w : World} {b o : Nat} {v : Value} (hb : b < a.heap.size) (hc : a.cell? ⟨b, o, none⟩ = some v) (h : Below a.heap.size a w) : w.cell? ⟨b, o, none⟩ = some v ∧ Below a.heap.size a w := ⟨(h.cell (p := ⟨b, o, none⟩) hb).trans hc, h⟩

set_option maxRecDepth 100000 in
set_option maxHeartbeats 4000000 in
theorem sorted_any (A : Option Addr) (c : Nat) (l : List Nat) (hlen : l.length ≤ 1000000000) (hl : ∀ n ∈ l, n ≤ 4294967295) (w : World) (hS : SlAt encU 1 w A l) :
    Calls Try.prog 24 #[.slice A l.length c] w fun e w' => ∃ (O : List Nat) (v : Value), e = .returned v ∧ O.Pairwise (· < ·) ∧ (∀ n, n ∈ O ↔ n ∈ l ∧ 0 < n) ∧ O.length ≤ l.length ∧
      w'.ownsRow w.heap.size 35 1 v O.length (flatL encU O) ∧ Below w.heap.size w w' := by
  obtain ⟨i0, hi, hz0, hz1, hz2⟩ := info_parts infoU
  have HL := Lib.hid hl
  clear hl
  go_enter Try.func24, Try.ntmps24
  go_wp2_with fail
  go_loopw [3, 4] (fun v i wr => ∃ (k : Nat) (O : List Nat), k ≤ l.length ∧ i = .int .i64 k ∧ O.Pairwise (· < ·) ∧ (∀ n, n ∈ O ↔ n ∈ l.take k ∧ 0 < n) ∧ O.length ≤ k ∧ (O = [] → v = .slice none 0 0) ∧ wr.ownsRow w.heap.size 35 1 v O.length (flatL encU O) ∧ Below w.heap.size w wr)
    (fun _ i _ => l.length - (intOf i).toNat)
  case atStart => exact ⟨0, [], Nat.zero_le _, rfl, List.Pairwise.nil, (by simp), (by simp), (fun _ => rfl), World.ownsRow_nil _ _ _ _, Below.refl _ _⟩
  case round =>
    obtain ⟨k, O, hk, rfl, hasc, hmem, hle, hnil, hrow, hB⟩ := hrel
    by_cases hlt : k < l.length
    · obtain ⟨b, off, rfl, hb, hc0⟩ := (hS.below hB).one hlt
      have HM := Lib.hid (fun n => (hmem n))
      have HA := Lib.hid hasc
      have HT := Lib.hid (List.take_succ_eq_append_getElem hlt)
      have HS := Lib.hid hS
      clear hS hmem hasc
      have hxl := HL.out l[k] (List.getElem_mem _)
      generalize l[k] = x at *
      obtain ⟨A', c', rfl⟩ := own_any hrow
      have HR := Lib.hid hrow
      have HN := Lib.hid hnil
      clear hrow hnil
      go_wp2_with fail
      go_loopw [5] (fun at' wr2 => ∃ a : Nat, a ≤ O.length ∧ at' = .int .i64 a ∧ (∀ j y, a ≤ j → O[j]? = some y → x < y) ∧ ∃ q, wr2 = wr.drewN q) (fun at' _ => (intOf at').toNat)
      case atStart => exact ⟨O.length, Nat.le_refl _, rfl, fun j y h1 h2 => (by rw [List.getElem?_eq_none h1] at h2; cases h2), 0, rfl⟩
      case round =>
        obtain ⟨a, ha, rfl, hab, q, rfl⟩ := hrel
        have HAB := Lib.hid hab
        clear hab
        rcases Nat.eq_zero_or_pos a with h0 | h0
        · subst h0
          have hf : decide ((0 : Int) < ((0 : Nat) : Int)) = false := rfl
          go_wp2_with fail
          go_quiet (fail)
          by_cases hx0 : x = 0
          · subst hx0
            go_wp2_with fail
            go_quiet (fail)
            go_wp2_with fail
            go_roundw
            case rel => exact ⟨k + 1, O, by omega, by go_num, HA.out, fun n => by rw [HT.out, List.mem_append, HM.out n]; simp; omega, by omega, HN.out, HR.out, belowDrawN hB _⟩
            case measure => simp [intOf]; omega
          · have hx1 : ((x : Int) == 0) = false := by simp; omega
            go_wp2_with fail
            go_quiet (fail)
            go_wp2_with fail
            have hk0 : (0 : Int) ≤ (k : Int) := by omega
            have hk1 : (k : Int) < (l.length : Int) := by omega
            by_cases hO : O = []
            · have hv0 := HN.out hO
              injection hv0 with hv1 _ hv2
              subst hv1
              subst hv2
              subst hO
              have hPl : (([] : List Nat).take 0).length = 0 := rfl
              have hSl : (([] : List Nat).drop 0).length = 0 := rfl
              have hP1 : ∀ W, Below wr.heap.size wr W → SlAt encU 1 W none (([] : List Nat).take 0) := fun W _ => .inl rfl
              have hS1 : ∀ W, Below wr.heap.size wr W → SlAt encU 1 W none (([] : List Nat).drop 0) := fun W _ => .inl rfl
              go_region_held3 (fun w' => w'.cell? ⟨b, off + k, none⟩ = some (.int .u32 (x : Int)) ∧ Below wr.heap.size wr w')
                ((refine keepS hb hc0 ?_; repeat (first | assumption | exact Below.refl _ _ | refine belowDrawN ?_ _ | refine belowDraw ?_ | refine belowAlloc ?_ _)))
                (first
                  | (refine step_append_slm _ (by rfl) _ _ _ (by rfl) wr.heap.size 35 i0 _ 4 Try.underlying22 hi hz0 hz1 hz2 rfl (by decide) _ 0 [] (by rfl) (own_empty (by first | exact heap_alloc_new _ _ | exact (Below.heap_alloc _ _ _ (by simp)).trans (heap_alloc_new _ _) | exact heap_new1 _ _ (by simp)) (by simp)) _ (([] : List Nat).take 0) _ _ (by rfl) hPl encU_len (hP1 _ (by repeat (first | assumption | exact Below.refl _ _ | refine belowDrawN ?_ _ | refine belowDraw ?_ | refine belowAlloc ?_ _))) (one_flatU _) (by unfold maxLen; omega) (by omega) (bsz (a := wr) (by repeat (first | assumption | exact Below.refl _ _ | refine belowDrawN ?_ _ | refine belowDraw ?_ | refine belowAlloc ?_ _))) ?_
                     intro v1 w1 hown1 hgrow1
                     have hB1 : Below wr.heap.size wr w1 := bgr (a := wr) (by repeat (first | assumption | exact Below.refl _ _ | refine belowDrawN ?_ _ | refine belowDraw ?_ | refine belowAlloc ?_ _)) hgrow1 (by intro kk hkk; simp [Value.ownBlock] at hkk; omega))
                  | (refine step_append_slm _ (by rfl) _ _ _ (by rfl) wr.heap.size 35 i0 _ 4 Try.underlying22 hi hz0 hz1 hz2 rfl (by decide) v1 _ _ (by rfl) (by first | exact hown1 | exact hown1.alloc _) _ [x] _ _ (by rfl) (by rfl) encU_len (slAt_x (by first | exact cell_at1 _ _ _ (by rfl) | exact cell_at1 _ _ _ (by simp) | exact hgrow1.cell (cell_at1 _ _ _ (by simp)) (by simp [Value.ownBlock]) | exact hgrow1.cell (cell_past1 _ _ _ (by simp) (cell_at1 _ _ _ (by rfl))) (by simp [Value.ownBlock]) | exact hgrow1.cell (cell_past1 _ _ _ (by simp) (cell_at1 _ _ _ (by simp))) (by simp [Value.ownBlock])) (by first | (simp; done) | (have := hgrow1.size; simp at this; show _ < w1.heap.size; omega))) (one_flatU _) (by simp only [List.length_singleton, maxLen]; omega) (by simp only [List.length_singleton]; omega) (bsz (a := wr) (by repeat (first | assumption | exact Below.refl _ _ | refine belowDrawN ?_ _ | refine belowDraw ?_ | refine belowAlloc ?_ _))) ?_
                     intro v2 w2 hown2 hgrow2
                     have hB2 : Below wr.heap.size wr w2 := bgr (a := wr) (by repeat (first | assumption | exact Below.refl _ _ | refine belowDrawN ?_ _ | refine belowDraw ?_ | refine belowAlloc ?_ _)) hgrow2 (fun kk hkk => (hown1.lt kk hkk).1))
                  | (refine step_append_slm _ (by rfl) _ _ _ (by rfl) wr.heap.size 35 i0 _ 4 Try.underlying22 hi hz0 hz1 hz2 rfl (by decide) v2 _ _ (by rfl) hown2 _ (([] : List Nat).drop 0) _ _ (by rfl) hSl encU_len (hS1 _ (by repeat (first | assumption | exact Below.refl _ _ | refine belowDrawN ?_ _ | refine belowDraw ?_ | refine belowAlloc ?_ _))) (one_flatU _) (by simp only [List.length_singleton, maxLen]; omega) (by simp only [List.length_singleton]; omega) (bsz (a := wr) (by repeat (first | assumption | exact Below.refl _ _ | refine belowDrawN ?_ _ | refine belowDraw ?_ | refine belowAlloc ?_ _))) ?_
                     intro v3 w3 hown3 hgrow3
                     have hB3 : Below wr.heap.size wr w3 := bgr (a := wr) (by repeat (first | assumption | exact Below.refl _ _ | refine belowDrawN ?_ _ | refine belowDraw ?_ | refine belowAlloc ?_ _)) hgrow3 (fun kk hkk => (hown2.lt kk hkk).1)))
              all_goals
                go_wp2_with fail
                have HO := Lib.hid (own_ins hown3 hB.size)
                have HB3 := Lib.hid (below_next hB hB3)
                clear hown1 hown2 hown3 hgrow1 hgrow2 hgrow3 hB1 hB2 hB3 hP1 hS1 hB
                go_roundw
                case rel => exact ⟨k + 1, ([] : List Nat).take 0 ++ [x] ++ ([] : List Nat).drop 0, by omega, by go_num, asc_ins HA.out ha HAB.out (fun p' y' e h => by omega), fun n => (mem_ins [] _ x n).trans (by
                  rw [HT.out, List.mem_append, HM.out n, List.mem_singleton]
                  constructor
                  · rintro (⟨h1, h2⟩ | rfl)
                    · exact ⟨.inl h1, h2⟩
                    · exact ⟨.inr rfl, by omega⟩
                  · rintro ⟨h1 | h1, h2⟩
                    · exact .inl ⟨h1, h2⟩
                    · exact .inr h1), by rw [len_ins [] _ x ha]; omega, fun h => (by simp at h), HO.out, HB3.out⟩
                case measure => simp [intOf]; omega
            · have hr2 := HR.out
              obtain ⟨g, cap, hgv, hg0, hgl⟩ := hr2.form (List.length_pos_iff.2 hO)
              injection hgv with hgA _ hgc
              subst hgA
              subst hgc
              clear hr2
              have hPl : (O.take 0).length = 0 := rfl
              have hSl : (O.drop 0).length = O.length := rfl
              have ho2 : (O.length : Int) ≤ (c' : Int) := by have := own_cap HR.out; omega
              have ho5 : (0 : Int) ≤ (c' : Int) := by omega
              have ho6 : (0 : Int) ≤ (O.length : Int) := by omega
              have hP1 : ∀ W, Below wr.heap.size wr W → SlAt encU 1 W (some ⟨g, 0, none⟩) (O.take 0) := fun W _ => .inl rfl
              have hS1 : ∀ W, Below wr.heap.size wr W → SlAt encU 1 W (some ⟨g, 0, none⟩) (O.drop 0) := fun W hW => (SlAt.of_own encU_len HR.out).below hW
              go_region_held3 (fun w' => w'.cell? ⟨b, off + k, none⟩ = some (.int .u32 (x : Int)) ∧ Below wr.heap.size wr w')
                ((refine keepS hb hc0 ?_; repeat (first | assumption | exact Below.refl _ _ | refine belowDrawN ?_ _ | refine belowDraw ?_ | refine belowAlloc ?_ _)))
                (first
                  | (refine step_append_slm _ (by rfl) _ _ _ (by rfl) wr.heap.size 35 i0 _ 4 Try.underlying22 hi hz0 hz1 hz2 rfl (by decide) _ 0 [] (by rfl) (own_empty (by first | exact heap_alloc_new _ _ | exact (Below.heap_alloc _ _ _ (by simp)).trans (heap_alloc_new _ _) | exact heap_new1 _ _ (by simp)) (by simp)) _ (O.take 0) _ _ (by rfl) hPl encU_len (hP1 _ (by repeat (first | assumption | exact Below.refl _ _ | refine belowDrawN ?_ _ | refine belowDraw ?_ | refine belowAlloc ?_ _))) (one_flatU _) (by unfold maxLen; omega) (by omega) (bsz (a := wr) (by repeat (first | assumption | exact Below.refl _ _ | refine belowDrawN ?_ _ | refine belowDraw ?_ | refine belowAlloc ?_ _))) ?_
                     intro v1 w1 hown1 hgrow1
                     have hB1 : Below wr.heap.size wr w1 := bgr (a := wr) (by repeat (first | assumption | exact Below.refl _ _ | refine belowDrawN ?_ _ | refine belowDraw ?_ | refine belowAlloc ?_ _)) hgrow1 (by intro kk hkk; simp [Value.ownBlock] at hkk; omega))
                  | (refine step_append_slm _ (by rfl) _ _ _ (by rfl) wr.heap.size 35 i0 _ 4 Try.underlying22 hi hz0 hz1 hz2 rfl (by decide) v1 _ _ (by rfl) (by first | exact hown1 | exact hown1.alloc _) _ [x] _ _ (by rfl) (by rfl) encU_len (slAt_x (by first | exact cell_at1 _ _ _ (by rfl) | exact cell_at1 _ _ _ (by simp) | exact hgrow1.cell (cell_at1 _ _ _ (by simp)) (by simp [Value.ownBlock]) | exact hgrow1.cell (cell_past1 _ _ _ (by simp) (cell_at1 _ _ _ (by rfl))) (by simp [Value.ownBlock]) | exact hgrow1.cell (cell_past1 _ _ _ (by simp) (cell_at1 _ _ _ (by simp))) (by simp [Value.ownBlock])) (by first | (simp; done) | (have := hgrow1.size; simp at this; show _ < w1.heap.size; omega))) (one_flatU _) (by simp only [List.length_singleton, maxLen]; omega) (by simp only [List.length_singleton]; omega) (bsz (a := wr) (by repeat (first | assumption | exact Below.refl _ _ | refine belowDrawN ?_ _ | refine belowDraw ?_ | refine belowAlloc ?_ _))) ?_
                     intro v2 w2 hown2 hgrow2
                     have hB2 : Below wr.heap.size wr w2 := bgr (a := wr) (by repeat (first | assumption | exact Below.refl _ _ | refine belowDrawN ?_ _ | refine belowDraw ?_ | refine belowAlloc ?_ _)) hgrow2 (fun kk hkk => (hown1.lt kk hkk).1))
                  | (refine step_append_slm _ (by rfl) _ _ _ (by rfl) wr.heap.size 35 i0 _ 4 Try.underlying22 hi hz0 hz1 hz2 rfl (by decide) v2 _ _ (by rfl) hown2 _ (O.drop 0) _ _ (by rfl) hSl encU_len (hS1 _ (by repeat (first | assumption | exact Below.refl _ _ | refine belowDrawN ?_ _ | refine belowDraw ?_ | refine belowAlloc ?_ _))) (one_flatU _) (by simp only [List.length_singleton, maxLen]; omega) (by simp only [List.length_singleton]; omega) (bsz (a := wr) (by repeat (first | assumption | exact Below.refl _ _ | refine belowDrawN ?_ _ | refine belowDraw ?_ | refine belowAlloc ?_ _))) ?_
                     intro v3 w3 hown3 hgrow3
                     have hB3 : Below wr.heap.size wr w3 := bgr (a := wr) (by repeat (first | assumption | exact Below.refl _ _ | refine belowDrawN ?_ _ | refine belowDraw ?_ | refine belowAlloc ?_ _)) hgrow3 (fun kk hkk => (hown2.lt kk hkk).1)))
              all_goals
                go_wp2_with fail
                have HO := Lib.hid (own_ins hown3 hB.size)
                have HB3 := Lib.hid (below_next hB hB3)
                clear hown1 hown2 hown3 hgrow1 hgrow2 hgrow3 hB1 hB2 hB3 hP1 hS1 hB
                go_roundw
                case rel => exact ⟨k + 1, O.take 0 ++ [x] ++ O.drop 0, by omega, by go_num, asc_ins HA.out ha HAB.out (fun p' y' e h => by omega), fun n => (mem_ins O _ x n).trans (by
                  rw [HT.out, List.mem_append, HM.out n, List.mem_singleton]
                  constructor
                  · rintro (⟨h1, h2⟩ | rfl)
                    · exact ⟨.inl h1, h2⟩
                    · exact ⟨.inr rfl, by omega⟩
                  · rintro ⟨h1 | h1, h2⟩
                    · exact .inl ⟨h1, h2⟩
                    · exact .inr h1), by rw [len_ins O _ x ha]; omega, fun h => (by simp at h), HO.out, HB3.out⟩
                case measure => simp [intOf]; omega
        · obtain ⟨p, rfl⟩ : ∃ p, a = p + 1 := ⟨a - 1, by omega⟩
          have hr2 := HR.out
          obtain ⟨g, cap, hgv, hg0, hgl⟩ := hr2.form (by omega)
          injection hgv with hgA _ hgc
          subst hgA
          subst hgc
          have hcp : wr.cell? ⟨g, p, none⟩ = some (.int .u32 (O[p] : Int)) := by
            rw [hr2.cellAt _ (by omega)]
            have := flatL_at encU_len O p O[p] (List.getElem?_eq_getElem (Nat.lt_of_succ_le ha)) 0 _ rfl
            simpa using this
          have hpO : p < O.length := by omega
          have HP := Lib.hid (List.getElem?_eq_getElem hpO)
          clear hr2
          generalize O[p] = y at *
          by_cases hyx : x < y
          · have hyx2 : (x : Int) < (y : Int) := by omega
            go_wp2_with fail
            go_quiet (fail)
            go_wp2_with fail
            go_roundw
            case rel => exact ⟨p, by omega, rfl, fun j y' h1 h2 => (by
              rcases Nat.lt_or_ge p j with h | h
              · exact HAB.out j y' (by omega) h2
              · obtain rfl : p = j := by omega
                rw [HP.out] at h2
                injection h2 with h2
                omega), _, rfl⟩
            case measure => simp [intOf]
          · have hyx2 : ¬ (x : Int) < (y : Int) := by omega
            go_wp2_with fail
            go_quiet (fail)
            by_cases hx0 : x = 0
            · subst hx0
              go_wp2_with fail
              go_quiet (fail)
              go_wp2_with fail
              go_roundw
              case rel => exact ⟨k + 1, O, by omega, by go_num, HA.out, fun n => by rw [HT.out, List.mem_append, HM.out n]; simp; omega, by omega, HN.out, HR.out, belowDrawN hB _⟩
              case measure => simp [intOf]; omega
            · have hx1 : ((x : Int) == 0) = false := by simp; omega
              by_cases hxy : x = y
              · subst hxy
                go_wp2_with fail
                go_quiet (fail)
                go_wp2_with fail
                go_roundw
                case rel => exact ⟨k + 1, O, by omega, by go_num, HA.out, fun n => by
                  rw [HT.out, List.mem_append, HM.out n]
                  have hin := (HM.out x).1 (List.mem_of_getElem? HP.out)
                  constructor
                  · exact fun h => ⟨.inl h.1, h.2⟩
                  · rintro ⟨h | h, h2⟩
                    · exact ⟨h, h2⟩
                    · obtain rfl : n = x := by simpa using h
                      exact hin, by omega, HN.out, HR.out, belowDrawN hB _⟩
                case measure => simp [intOf]; omega
              · have hx2 : ((y : Int) == (x : Int)) = false := by simp; omega
                go_wp2_with fail
                go_quiet (fail)
                go_wp2_with fail
                have hk0 : (0 : Int) ≤ (k : Int) := by omega
                have hk1 : (k : Int) < (l.length : Int) := by omega
                have hPl : (O.take (p + 1)).length = p + 1 := by rw [List.length_take]; omega
                have hSl : (O.drop (p + 1)).length = O.length - (p + 1) := List.length_drop
                have ho1 : ((p : Int) + 1) ≤ (O.length : Int) := by omega
                have ho2 : (O.length : Int) ≤ (c' : Int) := by have := own_cap HR.out; omega
                have ho3 : (0 : Int) ≤ (p : Int) + 1 := by omega
                have ho4 : (p : Int) + 1 ≤ (c' : Int) := by omega
                have hP1 : ∀ W, Below wr.heap.size wr W → SlAt encU 1 W (some ⟨g, 0, none⟩) (O.take (p + 1)) := fun W hW => (slAt_take1 (SlAt.of_own encU_len HR.out) _).below hW
                have hS1 : ∀ W, Below wr.heap.size wr W → SlAt encU 1 W (if c' = p + 1 then some ⟨g, 0, none⟩ else some ⟨g, p + 1, none⟩) (O.drop (p + 1)) := fun W hW => (slAt_drop1 (SlAt.of_own encU_len HR.out) (p + 1) c' (own_cap HR.out)).below hW
                go_region_held3 (fun w' => w'.cell? ⟨b, off + k, none⟩ = some (.int .u32 (x : Int)) ∧ Below wr.heap.size wr w')
                  ((refine keepS hb hc0 ?_; repeat (first | assumption | exact Below.refl _ _ | refine belowDrawN ?_ _ | refine belowDraw ?_ | refine belowAlloc ?_ _)))
                  (first
                    | (refine step_append_slm _ (by rfl) _ _ _ (by rfl) wr.heap.size 35 i0 _ 4 Try.underlying22 hi hz0 hz1 hz2 rfl (by decide) _ 0 [] (by rfl) (own_empty (by first | exact heap_alloc_new _ _ | exact (Below.heap_alloc _ _ _ (by simp)).trans (heap_alloc_new _ _) | exact heap_new1 _ _ (by simp)) (by simp)) _ (O.take (p + 1)) _ _ (by rfl) hPl encU_len (hP1 _ (by repeat (first | assumption | exact Below.refl _ _ | refine belowDrawN ?_ _ | refine belowDraw ?_ | refine belowAlloc ?_ _))) (one_flatU _) (by unfold maxLen; omega) (by omega) (bsz (a := wr) (by repeat (first | assumption | exact Below.refl _ _ | refine belowDrawN ?_ _ | refine belowDraw ?_ | refine belowAlloc ?_ _))) ?_
                       intro v1 w1 hown1 hgrow1
                       have hB1 : Below wr.heap.size wr w1 := bgr (a := wr) (by repeat (first | assumption | exact Below.refl _ _ | refine belowDrawN ?_ _ | refine belowDraw ?_ | refine belowAlloc ?_ _)) hgrow1 (by intro kk hkk; simp [Value.ownBlock] at hkk; omega))
                    | (refine step_append_slm _ (by rfl) _ _ _ (by rfl) wr.heap.size 35 i0 _ 4 Try.underlying22 hi hz0 hz1 hz2 rfl (by decide) v1 _ _ (by rfl) (by first | exact hown1 | exact hown1.alloc _) _ [x] _ _ (by rfl) (by rfl) encU_len (slAt_x (by first | exact cell_at1 _ _ _ (by rfl) | exact cell_at1 _ _ _ (by simp) | exact hgrow1.cell (cell_at1 _ _ _ (by simp)) (by simp [Value.ownBlock]) | exact hgrow1.cell (cell_past1 _ _ _ (by simp) (cell_at1 _ _ _ (by rfl))) (by simp [Value.ownBlock]) | exact hgrow1.cell (cell_past1 _ _ _ (by simp) (cell_at1 _ _ _ (by simp))) (by simp [Value.ownBlock])) (by first | (simp; done) | (have := hgrow1.size; simp at this; show _ < w1.heap.size; omega))) (one_flatU _) (by simp only [List.length_singleton, maxLen]; omega) (by simp only [List.length_singleton]; omega) (bsz (a := wr) (by repeat (first | assumption | exact Below.refl _ _ | refine belowDrawN ?_ _ | refine belowDraw ?_ | refine belowAlloc ?_ _))) ?_
                       intro v2 w2 hown2 hgrow2
                       have hB2 : Below wr.heap.size wr w2 := bgr (a := wr) (by repeat (first | assumption | exact Below.refl _ _ | refine belowDrawN ?_ _ | refine belowDraw ?_ | refine belowAlloc ?_ _)) hgrow2 (fun kk hkk => (hown1.lt kk hkk).1))
                    | (refine step_append_slm _ (by rfl) _ _ _ (by rfl) wr.heap.size 35 i0 _ 4 Try.underlying22 hi hz0 hz1 hz2 rfl (by decide) v2 _ _ (by rfl) hown2 _ (O.drop (p + 1)) _ _ (by rfl) hSl encU_len (hS1 _ (by repeat (first | assumption | exact Below.refl _ _ | refine belowDrawN ?_ _ | refine belowDraw ?_ | refine belowAlloc ?_ _))) (one_flatU _) (by simp only [List.length_singleton, maxLen]; omega) (by simp only [List.length_singleton]; omega) (bsz (a := wr) (by repeat (first | assumption | exact Below.refl _ _ | refine belowDrawN ?_ _ | refine belowDraw ?_ | refine belowAlloc ?_ _))) ?_
                       intro v3 w3 hown3 hgrow3
                       have hB3 : Below wr.heap.size wr w3 := bgr (a := wr) (by repeat (first | assumption | exact Below.refl _ _ | refine belowDrawN ?_ _ | refine belowDraw ?_ | refine belowAlloc ?_ _)) hgrow3 (fun kk hkk => (hown2.lt kk hkk).1)))
                all_goals
                  go_wp2_with fail
                  have HO := Lib.hid (own_ins hown3 hB.size)
                  have HB3 := Lib.hid (below_next hB hB3)
                  clear hown1 hown2 hown3 hgrow1 hgrow2 hgrow3 hB1 hB2 hB3 hP1 hS1 hB
                  go_roundw
                  case rel => exact ⟨k + 1, O.take (p + 1) ++ [x] ++ O.drop (p + 1), by omega, by go_num, asc_ins HA.out ha HAB.out (fun p' y' e h => by
                    obtain rfl : p = p' := by omega
                    rw [HP.out] at h
                    injection h with h
                    omega), fun n => (mem_ins O _ x n).trans (by
                    rw [HT.out, List.mem_append, HM.out n, List.mem_singleton]
                    constructor
                    · rintro (⟨h1, h2⟩ | rfl)
                      · exact ⟨.inl h1, h2⟩
                      · exact ⟨.inr rfl, by omega⟩
                    · rintro ⟨h1 | h1, h2⟩
                      · exact .inl ⟨h1, h2⟩
                      · exact .inr h1), by rw [len_ins O _ x ha]; omega, fun h => (by simp at h), HO.out, HB3.out⟩
                  case measure => simp [intOf]; omega
    · obtain rfl : k = l.length := by omega
      have HM := Lib.hid (fun n => (hmem n).trans (show (n ∈ l.take l.length ∧ 0 < n) ↔ (n ∈ l ∧ 0 < n) by rw [List.take_length]))
      have HA := Lib.hid hasc
      have HR := Lib.hid hrow
      clear hmem hasc hrow hnil hS
      go_wp2_with fail
      go_ret
      exact ⟨O, _, rfl, HA.out, HM.out, hle, HR.out, hB⟩
end Go.Proofs.Ytefodmbaknedkaa
