/- The ascending list of a list's numbers. No walk. -/
import Derived.WalkKit
import Derived.Test.YtcfpdflaabfdkaaGa
import Derived.Deep.RegionHeld3
import Derived.Deep.DrawnRows
import Derived.BigQuiet
import Derived.Deep.QuietTactic
import Derived.Deep.LoopGhost
import Derived.CellFam
import Derived.Test.YtcfpdflaabfdkaaGc
import Derived.Test.YtcfpdflaabfdkaaGb
import Derived.Shelf.Small.Bits
import Derived.OwnWalk
namespace Go.Proofs.Ytcfpdflaabfdkaa
open Go.RowKit

/-- Two ascending lists with the same members are one. -/
theorem asc_unique : ∀ {a b : List Nat}, a.Pairwise (· < ·) → b.Pairwise (· < ·) → (∀ n, n ∈ a ↔ n ∈ b) → a = b
  | [], [], _, _, _ => rfl
  | [], y :: b, _, _, h => by have := (h y).2 (by simp); cases this
  | x :: a, [], _, _, h => by have := (h x).1 (by simp); cases this
  | x :: a, y :: b, ha, hb, h => by
    have ha' := List.pairwise_cons.1 ha
    have hb' := List.pairwise_cons.1 hb
    have hxy : x = y := by
      rcases List.mem_cons.1 ((h x).1 (by simp)) with e | hx
      · exact e
      · rcases List.mem_cons.1 ((h y).2 (by simp)) with e | hy
        · exact e.symm
        · have := ha'.1 y hy
          have := hb'.1 x hx
          omega
    subst hxy
    rw [asc_unique ha'.2 hb'.2 (fun n => ?_)]
    have := h n
    simp only [List.mem_cons] at this
    constructor
    · intro hn
      rcases this.1 (.inr hn) with e | e
      · have := ha'.1 n hn; omega
      · exact e
    · intro hn
      rcases this.2 (.inr hn) with e | e
      · have := hb'.1 n hn; omega
      · exact e
/-- What New makes of a list. -/
def IsSet (O l : List Nat) : Prop := O.Pairwise (· < ·) ∧ ∀ n, n ∈ O ↔ n ∈ l ∧ 0 < n
theorem IsSet.det {O P l : List Nat} (h : IsSet O l) (k : IsSet P l) : O = P := asc_unique h.1 k.1 fun n => (h.2 n).trans (k.2 n).symm
theorem isSet_ex : ∀ (l : List Nat), ∃ O, IsSet O l ∧ O.length ≤ l.length
  | [] => ⟨[], ⟨List.Pairwise.nil, by simp⟩, Nat.le_refl _⟩
  | x :: l => by
    obtain ⟨O, ⟨h1, h2⟩, h3⟩ := isSet_ex l
    by_cases hx : x = 0 ∨ x ∈ O
    · refine ⟨O, ⟨h1, fun n => ?_⟩, by simp; omega⟩
      rw [h2 n, List.mem_cons]
      constructor
      · exact fun h => ⟨.inr h.1, h.2⟩
      · rintro ⟨rfl | h, h0⟩
        · rcases hx with rfl | hx
          · omega
          · exact (h2 _).1 hx
        · exact ⟨h, h0⟩
    · refine ⟨O.filter (fun y => decide (y < x)) ++ [x] ++ O.filter (fun y => decide (x < y)), ⟨?_, fun n => ?_⟩, ?_⟩
      · refine List.pairwise_append.2 ⟨List.pairwise_append.2 ⟨h1.filter _, List.pairwise_singleton _ _, fun y hy z hz => ?_⟩, h1.filter _, fun y hy z hz => ?_⟩
        · obtain rfl : z = x := by simpa using hz
          simpa using (List.mem_filter.1 hy).2
        · have hz2 : x < z := by simpa using (List.mem_filter.1 hz).2
          rcases List.mem_append.1 hy with hy | hy
          · have : y < x := by simpa using (List.mem_filter.1 hy).2
            omega
          · obtain rfl : y = x := by simpa using hy
            exact hz2
      · simp only [List.mem_append, List.mem_filter, List.mem_cons, List.not_mem_nil, or_false, decide_eq_true_eq]
        constructor
        · rintro ((⟨h, _⟩ | h) | ⟨h, _⟩)
          · exact ⟨.inr ((h2 n).1 h).1, ((h2 n).1 h).2⟩
          · exact ⟨.inl h, by omega⟩
          · exact ⟨.inr ((h2 n).1 h).1, ((h2 n).1 h).2⟩
        · rintro ⟨h | h, h0⟩
          · exact .inl (.inr h)
          · have hn : n ∈ O := (h2 n).2 ⟨h, h0⟩
            rcases Nat.lt_trichotomy n x with h4 | h4 | h4
            · exact .inl (.inl ⟨hn, h4⟩)
            · exact .inl (.inr h4)
            · exact .inr ⟨hn, h4⟩
      · have h4 : (O.filter fun y => decide (y < x)).length + (O.filter fun y => decide (x < y)).length ≤ O.length := by
          rw [← List.countP_eq_length_filter, ← List.countP_eq_length_filter]
          have e := List.length_eq_countP_add_countP (fun y => decide (y < x)) (l := O)
          have : O.countP (fun y => decide (x < y)) ≤ O.countP (fun y => decide ¬decide (y < x) = true) := List.countP_mono_left fun y _ hy => by
            simp at hy ⊢
            omega
          omega
        simp only [List.length_append, List.length_cons, List.length_nil]
        omega
end Go.Proofs.Ytcfpdflaabfdkaa

namespace Go.Proofs.Ytcfpdflaabfdkaa
open Go.RowKit
attribute [local go_sem ↓] Go.wp_at_zero Go.wp_at_succ

theorem asc_ins {O : List Nat} {a x : Nat} (h : O.Pairwise (· < ·)) (ha : a ≤ O.length) (h1 : ∀ j y, a ≤ j → O[j]? = some y → x < y) (h2 : ∀ p y, a = p + 1 → O[p]? = some y → y < x) : (O.take a ++ [x] ++ O.drop a).Pairwise (· < ·) := by
  have hlow : ∀ y ∈ O.take a, y < x := by
    intro y hy
    obtain ⟨j, hj, rfl⟩ := List.mem_iff_getElem.1 hy
    rw [List.length_take] at hj
    rw [List.getElem_take]
    obtain ⟨p, rfl⟩ : ∃ p, a = p + 1 := ⟨a - 1, by omega⟩
    have hp : p < O.length := by omega
    have := h2 p _ rfl (List.getElem?_eq_getElem hp)
    rcases Nat.lt_or_ge j p with hjp | hjp
    · exact Nat.lt_trans (List.pairwise_iff_getElem.1 h j p (by omega) hp hjp) this
    · obtain rfl : j = p := by omega
      exact this
  have hhigh : ∀ y ∈ O.drop a, x < y := by
    intro y hy
    obtain ⟨j, hj, rfl⟩ := List.mem_iff_getElem.1 hy
    rw [List.getElem_drop]
    exact h1 (a + j) _ (by omega) (List.getElem?_eq_getElem _)
  refine List.pairwise_append.2 ⟨List.pairwise_append.2 ⟨h.sublist (List.take_sublist _ _), List.pairwise_singleton _ _, ?_⟩, h.sublist (List.drop_sublist _ _), ?_⟩
  · intro y hy z hz
    obtain rfl : z = x := by simpa using hz
    exact hlow y hy
  · intro y hy z hz
    have hz2 := hhigh z hz
    rcases List.mem_append.1 hy with hy | hy
    · exact Nat.lt_trans (hlow y hy) hz2
    · obtain rfl : y = x := by simpa using hy
      exact hz2
theorem mem_ins (O : List Nat) (a x n : Nat) : n ∈ O.take a ++ [x] ++ O.drop a ↔ n ∈ O ∨ n = x := by
  conv => rhs; rw [← List.take_append_drop a O]
  simp only [List.mem_append, List.mem_singleton]
  constructor
  · rintro ((h | h) | h)
    · exact .inl (.inl h)
    · exact .inr h
    · exact .inl (.inr h)
  · rintro ((h | h) | h)
    · exact .inl (.inl h)
    · exact .inr h
    · exact .inl (.inr h)
theorem len_ins (O : List Nat) (a x : Nat) (h : a ≤ O.length) : (O.take a ++ [x] ++ O.drop a).length = O.length + 1 := by
  simp only [List.length_append, List.length_take, List.length_drop, List.length_singleton]
  omega

theorem slAt_x {w : World} {b x : Nat} (h : w.cell? ⟨b, 0, none⟩ = some (.int .u32 (x : Int))) (hb : b < w.heap.size) : SlAt encU 1 w (some ⟨b, 0, none⟩) [x] := by
  refine .inr ⟨b, 0, rfl, hb, fun j y hj i v hi => ?_⟩
  obtain rfl : j = 0 := by
    have := (List.getElem?_eq_some_iff.1 hj).1
    simpa using this
  obtain rfl : x = y := by simpa using hj
  obtain rfl : i = 0 := by
    have := (List.getElem?_eq_some_iff.1 hi).1
    simpa [encU] using this
  obtain rfl : v = .int .u32 (x : Int) := by simpa [encU] using hi.symm
  simpa using h
theorem slAt_take1 {w : World} {A : Option Addr} {l : List Nat} (h : SlAt encU 1 w A l) (a : Nat) : SlAt encU 1 w A (l.take a) := by
  rcases h with rfl | ⟨b, off, hA, hb, hc⟩
  · exact .inl (by simp)
  · exact .inr ⟨b, off, hA, hb, fun j y hj i v hi => hc j y (by rw [List.getElem?_take] at hj; split at hj; exact hj; cases hj) i v hi⟩
theorem slAt_drop1 {w : World} {g : Nat} {l : List Nat} (h : SlAt encU 1 w (some ⟨g, 0, none⟩) l) (a c : Nat) (hc : l.length ≤ c) : SlAt encU 1 w (if c = a then some ⟨g, 0, none⟩ else some ⟨g, a, none⟩) (l.drop a) := by
  by_cases hca : c = a
  · exact .inl (List.drop_eq_nil_of_le (by omega))
  · rw [if_neg hca]
    rcases h with rfl | ⟨b, off, hA, hb, hcell⟩
    · exact .inl (by simp)
    · injection hA with hA
      injection hA with h1 h2
      subst h1
      subst h2
      refine .inr ⟨g, a, rfl, hb, fun j y hj i v hi => ?_⟩
      rw [List.getElem?_drop] at hj
      have := hcell (a + j) y hj i v hi
      rw [← this]
      congr 2
      omega
theorem own_ins {w : World} {base base' : Nat} {e : TypeId} {v : Value} {P S : List Nat} {x : Nat} (h : w.ownsRow base e 1 v (0 + P.length + [x].length + S.length) ([] ++ flatL encU P ++ flatL encU [x] ++ flatL encU S)) (hb : base' ≤ base) :
    w.ownsRow base' e 1 v (P ++ [x] ++ S).length (flatL encU (P ++ [x] ++ S)) := by
  have h2 := own_mono h hb
  rw [List.length_append, List.length_append, flatL_append, flatL_append]
  rw [Nat.zero_add, List.nil_append] at h2
  exact h2
theorem keepS {a w : World} {b o : Nat} {v : Value} (hb : b < a.heap.size) (hc : a.cell? ⟨b, o, none⟩ = some v) (h : Below a.heap.size a w) : w.cell? ⟨b, o, none⟩ = some v ∧ Below a.heap.size a w := ⟨(h.cell (p := ⟨b, o, none⟩) hb).trans hc, h⟩

set_option maxRecDepth 100000 in
set_option maxHeartbeats 4000000 in
theorem sorted_any (A : Option Addr) (c : Nat) (l : List Nat) (hlen : l.length ≤ 1000000000) (hl : ∀ n ∈ l, n ≤ 4294967295) (w : World) (hS : SlAt encU 1 w A l) :
    Calls Try.prog 34 #[.slice A l.length c] w fun e w' => ∃ (O : List Nat) (v : Value), e = .returned v ∧ O.Pairwise (· < ·) ∧ (∀ n, n ∈ O ↔ n ∈ l ∧ 0 < n) ∧ O.length ≤ l.length ∧
      w'.ownsRow w.heap.size 29 1 v O.length (flatL encU O) ∧ Below w.heap.size w w' := by
  obtain ⟨i0, hi, hz0, hz1, hz2⟩ := info_parts infoU
  have HL := Lib.hid hl
  clear hl
  go_enter Try.func34, Try.ntmps34
  go_wp2_with fail
  go_loopw [3, 4] (fun v i wr => ∃ (k : Nat) (O : List Nat), k ≤ l.length ∧ i = .int .i64 k ∧ O.Pairwise (· < ·) ∧ (∀ n, n ∈ O ↔ n ∈ l.take k ∧ 0 < n) ∧ O.length ≤ k ∧ (O = [] → v = .slice none 0 0) ∧ wr.ownsRow w.heap.size 29 1 v O.length (flatL encU O) ∧ Below w.heap.size w wr)
    (fun _ i _ => l.length - (intOf i).toNat)
  case atStart => exact ⟨0, [], Nat.zero_le _, rfl, List.Pairwise.nil, (by simp), (by simp), (fun _ => rfl), World.ownsRow_nil _ _ _ _, Below.refl _ _⟩
  case round =>
    obtain ⟨k, O, hk, rfl, hasc, hmem, hle, hnil, hrow, hB⟩ := hrel
    by_cases hlt : k < l.length
    · obtain ⟨b, off, rfl, hb, hc0⟩ := (hS.below hB).one hlt
      have HM := Lib.hid (fun n => (hmem n))
      have HA := Lib.hid hasc
      have HT := Lib.hid (List.take_succ_eq_append_getElem hlt)
      have HS := Lib.hid hS
      clear hS hmem hasc
      have hxl := HL.out l[k] (List.getElem_mem _)
      generalize l[k] = x at *
      obtain ⟨A', c', rfl⟩ := own_any hrow
      have HR := Lib.hid hrow
      have HN := Lib.hid hnil
      clear hrow hnil
      go_wp2_with fail
      go_loopw [5] (fun at' wr2 => ∃ a : Nat, a ≤ O.length ∧ at' = .int .i64 a ∧ (∀ j y, a ≤ j → O[j]? = some y → x < y) ∧ ∃ q, wr2 = wr.drewN q) (fun at' _ => (intOf at').toNat)
      case atStart => exact ⟨O.length, Nat.le_refl _, rfl, fun j y h1 h2 => (by rw [List.getElem?_eq_none h1] at h2; cases h2), 0, rfl⟩
      case round =>
        obtain ⟨a, ha, rfl, hab, q, rfl⟩ := hrel
        have HAB := Lib.hid hab
        clear hab
        rcases Nat.eq_zero_or_pos a with h0 | h0
        · subst h0
          have hf : decide ((0 : Int) < ((0 : Nat) : Int)) = false := rfl
          go_wp2_with fail
          go_quiet (fail)
          by_cases hx0 : x = 0
          · subst hx0
            go_wp2_with fail
            go_quiet (fail)
            go_wp2_with fail
            go_roundw
            case rel => exact ⟨k + 1, O, by omega, by go_num, HA.out, fun n => by rw [HT.out, List.mem_append, HM.out n]; simp; omega, by omega, HN.out, HR.out, belowDrawN hB _⟩
            case measure => simp [intOf]; omega
          · have hx1 : ((x : Int) == 0) = false := by simp; omega
            go_wp2_with fail
            go_quiet (fail)
            go_wp2_with fail
            have hk0 : (0 : Int) ≤ (k : Int) := by omega
            have hk1 : (k : Int) < (l.length : Int) := by omega
            by_cases hO : O = []
            · have hv0 := HN.out hO
              injection hv0 with hv1 _ hv2
              subst hv1
              subst hv2
              subst hO
              have hPl : (([] : List Nat).take 0).length = 0 := rfl
              have hSl : (([] : List Nat).drop 0).length = 0 := rfl
              have hP1 : ∀ W, Below wr.heap.size wr W → SlAt encU 1 W none (([] : List Nat).take 0) := fun W _ => .inl rfl
              have hS1 : ∀ W, Below wr.heap.size wr W → SlAt encU 1 W none (([] : List Nat).drop 0) := fun W _ => .inl rfl
              go_region_held3 (fun w' => w'.cell? ⟨b, off + k, none⟩ = some (.int .u32 (x : Int)) ∧ Below wr.heap.size wr w')
                ((refine keepS hb hc0 ?_; repeat (first | assumption | exact Below.refl _ _ | refine belowDrawN ?_ _ | refine belowDraw ?_ | refine belowAlloc ?_ _)))
                (first
                  | (refine step_append_slm _ (by rfl) _ _ _ (by rfl) wr.heap.size 29 i0 _ 4 Try.underlying43 hi hz0 hz1 hz2 rfl (by decide) _ 0 [] (by rfl) (own_empty (by first | exact heap_alloc_new _ _ | exact (Below.heap_alloc _ _ _ (by simp)).trans (heap_alloc_new _ _) | exact heap_new1 _ _ (by simp)) (by simp)) _ (([] : List Nat).take 0) _ _ (by rfl) hPl encU_len (hP1 _ (by repeat (first | assumption | exact Below.refl _ _ | refine belowDrawN ?_ _ | refine belowDraw ?_ | refine belowAlloc ?_ _))) (one_flatU _) (by unfold maxLen; omega) (by omega) (bsz (a := wr) (by repeat (first | assumption | exact Below.refl _ _ | refine belowDrawN ?_ _ | refine belowDraw ?_ | refine belowAlloc ?_ _))) ?_
                     intro v1 w1 hown1 hgrow1
                     have hB1 : Below wr.heap.size wr w1 := bgr (a := wr) (by repeat (first | assumption | exact Below.refl _ _ | refine belowDrawN ?_ _ | refine belowDraw ?_ | refine belowAlloc ?_ _)) hgrow1 (by intro kk hkk; simp [Value.ownBlock] at hkk; omega))
                  | (refine step_append_slm _ (by rfl) _ _ _ (by rfl) wr.heap.size 29 i0 _ 4 Try.underlying43 hi hz0 hz1 hz2 rfl (by decide) v1 _ _ (by rfl) (by first | exact hown1 | exact hown1.alloc _) _ [x] _ _ (by rfl) (by rfl) encU_len (slAt_x (by first | exact cell_at1 _ _ _ (by rfl) | exact cell_at1 _ _ _ (by simp) | exact hgrow1.cell (cell_at1 _ _ _ (by simp)) (by simp [Value.ownBlock]) | exact hgrow1.cell (cell_past1 _ _ _ (by simp) (cell_at1 _ _ _ (by rfl))) (by simp [Value.ownBlock]) | exact hgrow1.cell (cell_past1 _ _ _ (by simp) (cell_at1 _ _ _ (by simp))) (by simp [Value.ownBlock])) (by first | (simp; done) | (have := hgrow1.size; simp at this; show _ < w1.heap.size; omega))) (one_flatU _) (by simp only [List.length_singleton, maxLen]; omega) (by simp only [List.length_singleton]; omega) (bsz (a := wr) (by repeat (first | assumption | exact Below.refl _ _ | refine belowDrawN ?_ _ | refine belowDraw ?_ | refine belowAlloc ?_ _))) ?_
                     intro v2 w2 hown2 hgrow2
                     have hB2 : Below wr.heap.size wr w2 := bgr (a := wr) (by repeat (first | assumption | exact Below.refl _ _ | refine belowDrawN ?_ _ | refine belowDraw ?_ | refine belowAlloc ?_ _)) hgrow2 (fun kk hkk => (hown1.lt kk hkk).1))
                  | (refine step_append_slm _ (by rfl) _ _ _ (by rfl) wr.heap.size 29 i0 _ 4 Try.underlying43 hi hz0 hz1 hz2 rfl (by decide) v2 _ _ (by rfl) hown2 _ (([] : List Nat).drop 0) _ _ (by rfl) hSl encU_len (hS1 _ (by repeat (first | assumption | exact Below.refl _ _ | refine belowDrawN ?_ _ | refine belowDraw ?_ | refine belowAlloc ?_ _))) (one_flatU _) (by simp only [List.length_singleton, maxLen]; omega) (by simp only [List.length_singleton]; omega) (bsz (a := wr) (by repeat (first | assumption | exact Below.refl _ _ | refine belowDrawN ?_ _ | refine belowDraw ?_ | refine belowAlloc ?_ _))) ?_
                     intro v3 w3 hown3 hgrow3
                     have hB3 : Below wr.heap.size wr w3 := bgr (a := wr) (by repeat (first | assumption | exact Below.refl _ _ | refine belowDrawN ?_ _ | refine belowDraw ?_ | refine belowAlloc ?_ _)) hgrow3 (fun kk hkk => (hown2.lt kk hkk).1)))
              all_goals
                go_wp2_with fail
                have HO := Lib.hid (own_ins hown3 hB.size)
                have HB3 := Lib.hid (below_next hB hB3)
                clear hown1 hown2 hown3 hgrow1 hgrow2 hgrow3 hB1 hB2 hB3 hP1 hS1 hB
                go_roundw
                case rel => exact ⟨k + 1, ([] : List Nat).take 0 ++ [x] ++ ([] : List Nat).drop 0, by omega, by go_num, asc_ins HA.out ha HAB.out (fun p' y' e h => by omega), fun n => (mem_ins [] _ x n).trans (by
                  rw [HT.out, List.mem_append, HM.out n, List.mem_singleton]
                  constructor
                  · rintro (⟨h1, h2⟩ | rfl)
                    · exact ⟨.inl h1, h2⟩
                    · exact ⟨.inr rfl, by omega⟩
                  · rintro ⟨h1 | h1, h2⟩
                    · exact .inl ⟨h1, h2⟩
                    · exact .inr h1), by rw [len_ins [] _ x ha]; omega, fun h => (by simp at h), HO.out, HB3.out⟩
                case measure => simp [intOf]; omega
            · have hr2 := HR.out
              obtain ⟨g, cap, hgv, hg0, hgl⟩ := hr2.form (List.length_pos_iff.2 hO)
              injection hgv with hgA _ hgc
              subst hgA
              subst hgc
              clear hr2
              have hPl : (O.take 0).length = 0 := rfl
              have hSl : (O.drop 0).length = O.length := rfl
              have ho2 : (O.length : Int) ≤ (c' : Int) := by have := own_cap HR.out; omega
              have ho5 : (0 : Int) ≤ (c' : Int) := by omega
              have ho6 : (0 : Int) ≤ (O.length : Int) := by omega
              have hP1 : ∀ W, Below wr.heap.size wr W → SlAt encU 1 W (some ⟨g, 0, none⟩) (O.take 0) := fun W _ => .inl rfl
              have hS1 : ∀ W, Below wr.heap.size wr W → SlAt encU 1 W (some ⟨g, 0, none⟩) (O.drop 0) := fun W hW => (SlAt.of_own encU_len HR.out).below hW
              go_region_held3 (fun w' => w'.cell? ⟨b, off + k, none⟩ = some (.int .u32 (x : Int)) ∧ Below wr.heap.size wr w')
                ((refine keepS hb hc0 ?_; repeat (first | assumption | exact Below.refl _ _ | refine belowDrawN ?_ _ | refine belowDraw ?_ | refine belowAlloc ?_ _)))
                (first
                  | (refine step_append_slm _ (by rfl) _ _ _ (by rfl) wr.heap.size 29 i0 _ 4 Try.underlying43 hi hz0 hz1 hz2 rfl (by decide) _ 0 [] (by rfl) (own_empty (by first | exact heap_alloc_new _ _ | exact (Below.heap_alloc _ _ _ (by simp)).trans (heap_alloc_new _ _) | exact heap_new1 _ _ (by simp)) (by simp)) _ (O.take 0) _ _ (by rfl) hPl encU_len (hP1 _ (by repeat (first | assumption | exact Below.refl _ _ | refine belowDrawN ?_ _ | refine belowDraw ?_ | refine belowAlloc ?_ _))) (one_flatU _) (by unfold maxLen; omega) (by omega) (bsz (a := wr) (by repeat (first | assumption | exact Below.refl _ _ | refine belowDrawN ?_ _ | refine belowDraw ?_ | refine belowAlloc ?_ _))) ?_
                     intro v1 w1 hown1 hgrow1
                     have hB1 : Below wr.heap.size wr w1 := bgr (a := wr) (by repeat (first | assumption | exact Below.refl _ _ | refine belowDrawN ?_ _ | refine belowDraw ?_ | refine belowAlloc ?_ _)) hgrow1 (by intro kk hkk; simp [Value.ownBlock] at hkk; omega))
                  | (refine step_append_slm _ (by rfl) _ _ _ (by rfl) wr.heap.size 29 i0 _ 4 Try.underlying43 hi hz0 hz1 hz2 rfl (by decide) v1 _ _ (by rfl) (by first | exact hown1 | exact hown1.alloc _) _ [x] _ _ (by rfl) (by rfl) encU_len (slAt_x (by first | exact cell_at1 _ _ _ (by rfl) | exact cell_at1 _ _ _ (by simp) | exact hgrow1.cell (cell_at1 _ _ _ (by simp)) (by simp [Value.ownBlock]) | exact hgrow1.cell (cell_past1 _ _ _ (by simp) (cell_at1 _ _ _ (by rfl))) (by simp [Value.ownBlock]) | exact hgrow1.cell (cell_past1 _ _ _ (by simp) (cell_at1 _ _ _ (by simp))) (by simp [Value.ownBlock])) (by first | (simp; done) | (have := hgrow1.size; simp at this; show _ < w1.heap.size; omega))) (one_flatU _) (by simp only [List.length_singleton, maxLen]; omega) (by simp only [List.length_singleton]; omega) (bsz (a := wr) (by repeat (first | assumption | exact Below.refl _ _ | refine belowDrawN ?_ _ | refine belowDraw ?_ | refine belowAlloc ?_ _))) ?_
                     intro v2 w2 hown2 hgrow2
                     have hB2 : Below wr.heap.size wr w2 := bgr (a := wr) (by repeat (first | assumption | exact Below.refl _ _ | refine belowDrawN ?_ _ | refine belowDraw ?_ | refine belowAlloc ?_ _)) hgrow2 (fun kk hkk => (hown1.lt kk hkk).1))
                  | (refine step_append_slm _ (by rfl) _ _ _ (by rfl) wr.heap.size 29 i0 _ 4 Try.underlying43 hi hz0 hz1 hz2 rfl (by decide) v2 _ _ (by rfl) hown2 _ (O.drop 0) _ _ (by rfl) hSl encU_len (hS1 _ (by repeat (first | assumption | exact Below.refl _ _ | refine belowDrawN ?_ _ | refine belowDraw ?_ | refine belowAlloc ?_ _))) (one_flatU _) (by simp only [List.length_singleton, maxLen]; omega) (by simp only [List.length_singleton]; omega) (bsz (a := wr) (by repeat (first | assumption | exact Below.refl _ _ | refine belowDrawN ?_ _ | refine belowDraw ?_ | refine belowAlloc ?_ _))) ?_
                     intro v3 w3 hown3 hgrow3
                     have hB3 : Below wr.heap.size wr w3 := bgr (a := wr) (by repeat (first | assumption | exact Below.refl _ _ | refine belowDrawN ?_ _ | refine belowDraw ?_ | refine belowAlloc ?_ _)) hgrow3 (fun kk hkk => (hown2.lt kk hkk).1)))
              all_goals
                go_wp2_with fail
                have HO := Lib.hid (own_ins hown3 hB.size)
                have HB3 := Lib.hid (below_next hB hB3)
                clear hown1 hown2 hown3 hgrow1 hgrow2 hgrow3 hB1 hB2 hB3 hP1 hS1 hB
                go_roundw
                case rel => exact ⟨k + 1, O.take 0 ++ [x] ++ O.drop 0, by omega, by go_num, asc_ins HA.out ha HAB.out (fun p' y' e h => by omega), fun n => (mem_ins O _ x n).trans (by
                  rw [HT.out, List.mem_append, HM.out n, List.mem_singleton]
                  constructor
                  · rintro (⟨h1, h2⟩ | rfl)
                    · exact ⟨.inl h1, h2⟩
                    · exact ⟨.inr rfl, by omega⟩
                  · rintro ⟨h1 | h1, h2⟩
                    · exact .inl ⟨h1, h2⟩
                    · exact .inr h1), by rw [len_ins O _ x ha]; omega, fun h => (by simp at h), HO.out, HB3.out⟩
                case measure => simp [intOf]; omega
        · obtain ⟨p, rfl⟩ : ∃ p, a = p + 1 := ⟨a - 1, by omega⟩
          have hr2 := HR.out
          obtain ⟨g, cap, hgv, hg0, hgl⟩ := hr2.form (by omega)
          injection hgv with hgA _ hgc
          subst hgA
          subst hgc
          have hcp : wr.cell? ⟨g, p, none⟩ = some (.int .u32 (O[p] : Int)) := by
            rw [hr2.cellAt _ (by omega)]
            have := flatL_at encU_len O p O[p] (List.getElem?_eq_getElem (Nat.lt_of_succ_le ha)) 0 _ rfl
            simpa using this
          have hpO : p < O.length := by omega
          have HP := Lib.hid (List.getElem?_eq_getElem hpO)
          clear hr2
          generalize O[p] = y at *
          by_cases hyx : x < y
          · have hyx2 : (x : Int) < (y : Int) := by omega
            go_wp2_with fail
            go_quiet (fail)
            go_wp2_with fail
            go_roundw
            case rel => exact ⟨p, by omega, rfl, fun j y' h1 h2 => (by
              rcases Nat.lt_or_ge p j with h | h
              · exact HAB.out j y' (by omega) h2
              · obtain rfl : p = j := by omega
                rw [HP.out] at h2
                injection h2 with h2
                omega), _, rfl⟩
            case measure => simp [intOf]
          · have hyx2 : ¬ (x : Int) < (y : Int) := by omega
            go_wp2_with fail
            go_quiet (fail)
            by_cases hx0 : x = 0
            · subst hx0
              go_wp2_with fail
              go_quiet (fail)
              go_wp2_with fail
              go_roundw
              case rel => exact ⟨k + 1, O, by omega, by go_num, HA.out, fun n => by rw [HT.out, List.mem_append, HM.out n]; simp; omega, by omega, HN.out, HR.out, belowDrawN hB _⟩
              case measure => simp [intOf]; omega
            · have hx1 : ((x : Int) == 0) = false := by simp; omega
              by_cases hxy : x = y
              · subst hxy
                go_wp2_with fail
                go_quiet (fail)
                go_wp2_with fail
                go_roundw
                case rel => exact ⟨k + 1, O, by omega, by go_num, HA.out, fun n => by
                  rw [HT.out, List.mem_append, HM.out n]
                  have hin := (HM.out x).1 (List.mem_of_getElem? HP.out)
                  constructor
                  · exact fun h => ⟨.inl h.1, h.2⟩
                  · rintro ⟨h | h, h2⟩
                    · exact ⟨h, h2⟩
                    · obtain rfl : n = x := by simpa using h
                      exact hin, by omega, HN.out, HR.out, belowDrawN hB _⟩
                case measure => simp [intOf]; omega
              · have hx2 : ((y : Int) == (x : Int)) = false := by simp; omega
                go_wp2_with fail
                go_quiet (fail)
                go_wp2_with fail
                have hk0 : (0 : Int) ≤ (k : Int) := by omega
                have hk1 : (k : Int) < (l.length : Int) := by omega
                have hPl : (O.take (p + 1)).length = p + 1 := by rw [List.length_take]; omega
                have hSl : (O.drop (p + 1)).length = O.length - (p + 1) := List.length_drop
                have ho1 : ((p : Int) + 1) ≤ (O.length : Int) := by omega
                have ho2 : (O.length : Int) ≤ (c' : Int) := by have := own_cap HR.out; omega
                have ho3 : (0 : Int) ≤ (p : Int) + 1 := by omega
                have ho4 : (p : Int) + 1 ≤ (c' : Int) := by omega
                have hP1 : ∀ W, Below wr.heap.size wr W → SlAt encU 1 W (some ⟨g, 0, none⟩) (O.take (p + 1)) := fun W hW => (slAt_take1 (SlAt.of_own encU_len HR.out) _).below hW
                have hS1 : ∀ W, Below wr.heap.size wr W → SlAt encU 1 W (if c' = p + 1 then some ⟨g, 0, none⟩ else some ⟨g, p + 1, none⟩) (O.drop (p + 1)) := fun W hW => (slAt_drop1 (SlAt.of_own encU_len HR.out) (p + 1) c' (own_cap HR.out)).below hW
                go_region_held3 (fun w' => w'.cell? ⟨b, off + k, none⟩ = some (.int .u32 (x : Int)) ∧ Below wr.heap.size wr w')
                  ((refine keepS hb hc0 ?_; repeat (first | assumption | exact Below.refl _ _ | refine belowDrawN ?_ _ | refine belowDraw ?_ | refine belowAlloc ?_ _)))
                  (first
                    | (refine step_append_slm _ (by rfl) _ _ _ (by rfl) wr.heap.size 29 i0 _ 4 Try.underlying43 hi hz0 hz1 hz2 rfl (by decide) _ 0 [] (by rfl) (own_empty (by first | exact heap_alloc_new _ _ | exact (Below.heap_alloc _ _ _ (by simp)).trans (heap_alloc_new _ _) | exact heap_new1 _ _ (by simp)) (by simp)) _ (O.take (p + 1)) _ _ (by rfl) hPl encU_len (hP1 _ (by repeat (first | assumption | exact Below.refl _ _ | refine belowDrawN ?_ _ | refine belowDraw ?_ | refine belowAlloc ?_ _))) (one_flatU _) (by unfold maxLen; omega) (by omega) (bsz (a := wr) (by repeat (first | assumption | exact Below.refl _ _ | refine belowDrawN ?_ _ | refine belowDraw ?_ | refine belowAlloc ?_ _))) ?_
                       intro v1 w1 hown1 hgrow1
                       have hB1 : Below wr.heap.size wr w1 := bgr (a := wr) (by repeat (first | assumption | exact Below.refl _ _ | refine belowDrawN ?_ _ | refine belowDraw ?_ | refine belowAlloc ?_ _)) hgrow1 (by intro kk hkk; simp [Value.ownBlock] at hkk; omega))
                    | (refine step_append_slm _ (by rfl) _ _ _ (by rfl) wr.heap.size 29 i0 _ 4 Try.underlying43 hi hz0 hz1 hz2 rfl (by decide) v1 _ _ (by rfl) (by first | exact hown1 | exact hown1.alloc _) _ [x] _ _ (by rfl) (by rfl) encU_len (slAt_x (by first | exact cell_at1 _ _ _ (by rfl) | exact cell_at1 _ _ _ (by simp) | exact hgrow1.cell (cell_at1 _ _ _ (by simp)) (by simp [Value.ownBlock]) | exact hgrow1.cell (cell_past1 _ _ _ (by simp) (cell_at1 _ _ _ (by rfl))) (by simp [Value.ownBlock]) | exact hgrow1.cell (cell_past1 _ _ _ (by simp) (cell_at1 _ _ _ (by simp))) (by simp [Value.ownBlock])) (by first | (simp; done) | (have := hgrow1.size; simp at this; show _ < w1.heap.size; omega))) (one_flatU _) (by simp only [List.length_singleton, maxLen]; omega) (by simp only [List.length_singleton]; omega) (bsz (a := wr) (by repeat (first | assumption | exact Below.refl _ _ | refine belowDrawN ?_ _ | refine belowDraw ?_ | refine belowAlloc ?_ _))) ?_
                       intro v2 w2 hown2 hgrow2
                       have hB2 : Below wr.heap.size wr w2 := bgr (a := wr) (by repeat (first | assumption | exact Below.refl _ _ | refine belowDrawN ?_ _ | refine belowDraw ?_ | refine belowAlloc ?_ _)) hgrow2 (fun kk hkk => (hown1.lt kk hkk).1))
                    | (refine step_append_slm _ (by rfl) _ _ _ (by rfl) wr.heap.size 29 i0 _ 4 Try.underlying43 hi hz0 hz1 hz2 rfl (by decide) v2 _ _ (by rfl) hown2 _ (O.drop (p + 1)) _ _ (by rfl) hSl encU_len (hS1 _ (by repeat (first | assumption | exact Below.refl _ _ | refine belowDrawN ?_ _ | refine belowDraw ?_ | refine belowAlloc ?_ _))) (one_flatU _) (by simp only [List.length_singleton, maxLen]; omega) (by simp only [List.length_singleton]; omega) (bsz (a := wr) (by repeat (first | assumption | exact Below.refl _ _ | refine belowDrawN ?_ _ | refine belowDraw ?_ | refine belowAlloc ?_ _))) ?_
                       intro v3 w3 hown3 hgrow3
                       have hB3 : Below wr.heap.size wr w3 := bgr (a := wr) (by repeat (first | assumption | exact Below.refl _ _ | refine belowDrawN ?_ _ | refine belowDraw ?_ | refine belowAlloc ?_ _)) hgrow3 (fun kk hkk => (hown2.lt kk hkk).1)))
                all_goals
                  go_wp2_with fail
                  have HO := Lib.hid (own_ins hown3 hB.size)
                  have HB3 := Lib.hid (below_next hB hB3)
                  clear hown1 hown2 hown3 hgrow1 hgrow2 hgrow3 hB1 hB2 hB3 hP1 hS1 hB
                  go_roundw
                  case rel => exact ⟨k + 1, O.take (p + 1) ++ [x] ++ O.drop (p + 1), by omega, by go_num, asc_ins HA.out ha HAB.out (fun p' y' e h => by
                    obtain rfl : p = p' := by omega
                    rw [HP.out] at h
                    injection h with h
                    omega), fun n => (mem_ins O _ x n).trans (by
                    rw [HT.out, List.mem_append, HM.out n, List.mem_singleton]
                    constructor
                    · rintro (⟨h1, h2⟩ | rfl)
                      · exact ⟨.inl h1, h2⟩
                      · exact ⟨.inr rfl, by omega⟩
                    · rintro ⟨h1 | h1, h2⟩
                      · exact .inl ⟨h1, h2⟩
                      · exact .inr h1), by rw [len_ins O _ x ha]; omega, fun h => (by simp at h), HO.out, HB3.out⟩
                  case measure => simp [intOf]; omega
    · obtain rfl : k = l.length := by omega
      have HM := Lib.hid (fun n => (hmem n).trans (show (n ∈ l.take l.length ∧ 0 < n) ↔ (n ∈ l ∧ 0 < n) by rw [List.take_length]))
      have HA := Lib.hid hasc
      have HR := Lib.hid hrow
      clear hmem hasc hrow hnil hS
      go_wp2_with fail
      go_ret
      exact ⟨O, _, rfl, HA.out, HM.out, hle, HR.out, hB⟩
end Go.Proofs.Ytcfpdflaabfdkaa

namespace Go.Proofs.Ytcfpdflaabfdkaa
open Go.RowKit Go.Maps

def wiM (l : List MI) (f : Nat) : List Nat := (l.filter fun m => decide (m.f &&& f = f)).map (·.u)
theorem wiM_take {l : List MI} {f k : Nat} (hk : k < l.length) : wiM (l.take (k + 1)) f = if l[k].f &&& f = f then wiM (l.take k) f ++ [l[k].u] else wiM (l.take k) f := by
  unfold wiM
  rw [List.take_succ_eq_append_getElem hk, List.filter_append]
  by_cases h : l[k].f &&& f = f
  · rw [if_pos h, List.filter_cons_of_pos (by simpa using h), List.filter_nil, List.map_append]
    rfl
  · rw [if_neg h, List.filter_cons_of_neg (by simpa using h), List.filter_nil, List.append_nil]
theorem wiM_len (l : List MI) (f : Nat) : (wiM l f).length ≤ l.length := by
  unfold wiM
  rw [List.length_map]
  exact List.length_filter_le _ _
theorem cells_one {W : World} {b : Nat} (hb : b = W.heap.size) (x : Value) (T : TypeId) : ∀ (j : Nat) (u : Value), [x][j]? = some u → (W.alloc (.cells #[x] T)).cell? ((⟨b, 0, none⟩ : Addr).add j) = some u := by
  subst hb
  intro j u hj
  rw [Addr.add_lit]
  match j, hj with
  | 0, hj => simp at hj; subst hj; simp

section
variable {A : Option Addr} {c : Nat} {l : List MI} {w : World}
set_option maxRecDepth 100000 in
set_option maxHeartbeats 1000000 in
theorem rwith13_any (f : Nat) (hf : f < 256) (hm : ∀ m ∈ l, m.f < 256 ∧ m.u ≤ 4294967295) (hl : l.length ≤ 100000) (hS : SlAt encM 3 w A l) :
    Calls Try.prog 19 #[.slice A l.length c, .int .u8 f] w fun e w' => ∃ (O : List Nat) (v : Value), e = .returned v ∧ IsSet O (wiM l f) ∧ O.length ≤ l.length ∧ w'.ownsRow w.heap.size 29 1 v O.length (flatL encU O) ∧ Below w.heap.size w w' := by
  obtain ⟨i0, hi, hz0, hz1, hz2⟩ := info_parts infoU
  have HS := Lib.hid hS
  have HM := Lib.hid hm
  clear hS hm
  go_enter Try.func19, Try.ntmps19
  go_wp2_with fail
  go_loopw [5, 6] (fun v i wr => ∃ k : Nat, k ≤ l.length ∧ i = .int .i64 k ∧ Hid (wr.ownsRow w.heap.size 29 1 v (wiM (l.take k) f).length (flatL encU (wiM (l.take k) f))) ∧ Hid (Below w.heap.size w wr)) (fun _ i _ => l.length - (intOf i).toNat)
  case atStart => exact ⟨0, Nat.zero_le _, rfl, World.ownsRow_nil _ _ _ _, Below.refl _ _⟩
  case round =>
    obtain ⟨k, hk, rfl, hrow, hB⟩ := hrel
    by_cases hlt : k < l.length
    · obtain ⟨b, off, rfl, hb, hx, hx1, _⟩ := (HS.out.below hB.out).msg hlt
      have HT := Lib.hid (wiM_take (f := f) hlt)
      have hrl : (wiM (l.take k) f).length ≤ k := Nat.le_trans (wiM_len _ _) (List.length_take_le _ _)
      obtain ⟨hf2, _⟩ := HM.out l[k] (List.getElem_mem _)
      obtain ⟨A', c', rfl⟩ := own_any hrow.out
      have HE := Lib.hid (u8_and_nat l[k].f f hf2 hf)
      by_cases hxu : l[k].f &&& f = f
      · have HR := Lib.hid (show wiM (l.take (k + 1)) f = wiM (l.take k) f ++ [l[k].u] by rw [HT.out, if_pos hxu])
        have hb1 : (bits .and .u8 (l[k].f : Int) (f : Int) == (f : Int)) = true := by rw [HE.out, hxu]; simp
        clear HT hxu HE
        generalize l[k].f = y at *
        generalize l[k].u = x at *
        generalize wiM (l.take k) f = Q at *
        have hBs := hB.out.size
        have HRW := Lib.hid (hrow.out.alloc (.cells #[.int .u32 (x : Int)] 29))
        go_wp2_with (at_builtin; refine wpList_append_own _ rfl _ _ 43 rfl w.heap.size 29 i0 _ 1 4 Try.underlying43 hi hz0 hz1 hz2 rfl (by decide) _ _ _ rfl HRW.out ⟨wr.heap.size, 0, none⟩ 1 1 [.int .u32 (x : Int)] rfl rfl (cells_one rfl _ _) (by intro u hu; simp at hu; subst hu; rfl) (by unfold maxLen; omega) (by omega) (by simp; omega) ?_; intro v' wz hown' hgrow _; obtain ⟨A3, c3, rfl⟩ := own_any hown'; have HB2 := Lib.hid ((hB.out.alloc hBs (.cells #[.int .u32 (x : Int)] 29)).grown hgrow (by simp; omega) (fun k hk => (hrow.out.lt k hk).1)); have HO2 := Lib.hid hown'; clear hown' hgrow)
        go_roundw
        case rel => exact ⟨k + 1, by omega, by go_num, by rw [HR.out, List.length_append, flatL_append]; exact HO2, HB2⟩
        case measure => simp [intOf]; omega
      · have HR := Lib.hid (show wiM (l.take (k + 1)) f = wiM (l.take k) f by rw [HT.out, if_neg hxu])
        have hb1 : (bits .and .u8 (l[k].f : Int) (f : Int) == (f : Int)) = false := by
          rw [HE.out, beq_eq_false_iff_ne]
          intro e
          exact hxu (by omega)
        clear HT hxu HE
        generalize l[k].f = y at *
        go_wp2_with fail
        go_roundw
        case rel => exact ⟨k + 1, by omega, by go_num, by rw [HR.out]; exact hrow, hB⟩
        case measure => simp [intOf]; omega
    · obtain rfl : k = l.length := by omega
      rw [List.take_length] at hrow
      obtain ⟨A', c', rfl⟩ := own_any hrow.out
      have hwl := wiM_len l f
      have SO := Lib.hid (sorted_any A' c' (wiM l f) (by omega) (fun n hn => by
        obtain ⟨m, hm, rfl⟩ := List.mem_map.1 hn
        exact (HM.out m (List.mem_filter.1 hm).1).2) wr (SlAt.of_own encU_len hrow.out))
      go_wp2_with fail
      refine SO.out.mono ?_
      rintro e w2 ⟨O, v, rfl, h1, h2, h3, h4, h5⟩
      go_wp2_with fail
      go_ret
      exact ⟨O, v, rfl, ⟨h1, h2⟩, Nat.le_trans h3 hwl, own_mono h4 hB.out.size, below_next hB.out h5⟩
end
end Go.Proofs.Ytcfpdflaabfdkaa

namespace Go.Proofs.Ytcfpdflaabfdkaa
open Go.RowKit

def encZ (n : Nat) : List Value := [.int .i64 (n : Int)]
theorem encZ_len (x : Nat) : (encZ x).length = 1 := rfl
theorem flatZ (l : List Nat) : flatL encZ l = l.map fun n : Nat => Value.int .i64 (n : Int) := by
  induction l with
  | nil => rfl
  | cons x l ih =>
    have e : flatL encZ (x :: l) = encZ x ++ flatL encZ l := rfl
    rw [e, ih]
    rfl
theorem infoI : (Try.prog.info? 3).map (fun i => (i.zero, i.size, i.bytes)) = some (some (.int .i64 0), 1, 8) := by kernel_rfl
theorem run_mkI (n : Nat) (hn : n ≤ 1000000000) (W : World) :
    (Instr.makeSlice 39 (.int .i64 (n : Int)) (.int .i64 (n : Int))).run Try.prog W = .ok (.slice (some ⟨W.heap.size, 0, none⟩) n n) (W.alloc (.cells (madeCells #[.int .i64 0] n) 3)) := by
  obtain ⟨i0, hi, hz0, hz1, hz2⟩ := info_parts infoI
  have hr := run_make (P := Try.prog) W 39 3 i0 _ Try.underlying39 hi hz0 .i64 .i64 (n : Int) (n : Int) (by omega) (Int.le_refl _) (by rw [hz2]; omega) (by omega)
  simp only [Int.toNat_natCast, hz1, Nat.mul_one] at hr
  exact hr

/-- How many messages each stripe holds. -/
def szM (l : List MI) (n : Nat) : List Nat := (List.range n).map fun i => (l.filter fun m => decide (m.u % n = i)).length
theorem szM_len (l : List MI) (n : Nat) : (szM l n).length = n := by simp [szM]
theorem szM_at (l : List MI) (n : Nat) {i : Nat} (h : i < (szM l n).length) : (szM l n)[i] = (l.filter fun m => decide (m.u % n = i)).length := by simp [szM]
theorem szM_nil (n : Nat) : szM [] n = List.replicate n 0 := by
  apply List.ext_getElem
  · simp [szM]
  · intro i h1 h2
    rw [szM_at]
    simp
theorem szM_take {l : List MI} {n k j : Nat} (hk : k < l.length) (hj : l[k].u % n = j) (hjn : j < (szM (l.take k) n).length) : szM (l.take (k + 1)) n = (szM (l.take k) n).set j ((szM (l.take k) n)[j] + 1) := by
  apply List.ext_getElem
  · rw [List.length_set, szM_len, szM_len]
  · intro i h1 h2
    have e1 := szM_at (l.take k) n (i := i) (by rw [szM_len]; rw [szM_len] at h1; exact h1)
    have e2 := szM_at (l.take k) n hjn
    rw [szM_at, List.getElem_set, List.take_succ_eq_append_getElem hk, List.filter_append, List.length_append]
    by_cases hij : j = i
    · subst hij
      rw [if_pos rfl, e2, List.filter_cons_of_pos (by simpa using hj)]
      rfl
    · rw [if_neg hij, e1, List.filter_cons_of_neg (by simpa using fun e => hij (hj.symm.trans e))]
      rfl
theorem szM_le (l : List MI) (n : Nat) {i : Nat} (h : i < (szM l n).length) : (szM l n)[i] ≤ l.length := by
  rw [szM_at]
  exact List.length_filter_le _ _

section
variable {A : Option Addr} {c : Nat} {l : List MI} {w : World}
set_option maxRecDepth 100000 in
set_option maxHeartbeats 1000000 in
theorem rsizes13_any (n : Nat) (h0 : 0 < n) (hn : n ≤ 100000) (hu : ∀ m ∈ l, m.u ≤ 4294967295) (hl : l.length ≤ 100000) (hS : SlAt encM 3 w A l) :
    Calls Try.prog 16 #[.slice A l.length c, .int .i64 (n : Int)] w fun e w' => ∃ v, e = .returned v ∧ w'.ownsRow w.heap.size 3 1 v (szM l n).length (flatL encZ (szM l n)) ∧ Below w.heap.size w w' := by
  have HS := Lib.hid hS
  have HU := Lib.hid hu
  have mk := fun W => run_mkI n (by omega) W
  have HB0 := Lib.hid (below_al w (.cells (madeCells #[.int .i64 0] n) 3))
  have HO := Lib.hid (show (w.alloc (.cells (madeCells #[.int .i64 0] n) 3)).ownsRow w.heap.size 3 1 (.slice (some ⟨w.heap.size, 0, none⟩) n n) n (flatL encZ (szM (l.take 0) n)) by
    have h := World.ownsRow_lit (base := w.heap.size) (e := 3) (size := 1) w (madeCells #[.int .i64 0] n) n (Nat.le_refl _) (by unfold maxLen; omega) (by simp [size_madeCells])
    rw [toList_madeCells_one] at h
    rw [List.take_zero, szM_nil, flatZ, List.map_replicate]
    exact h)
  have hnz : ((n : Int) == 0) = false := by simp; omega
  have hni : ¬ (n : Int) = 0 := by omega
  clear hS hu
  go_enter Try.func16, Try.ntmps16
  go_wp2_with fail
  go_loopw [6, 7] (fun i _ wr => ∃ k : Nat, k ≤ l.length ∧ i = .int .i64 k ∧ Hid (wr.ownsRow w.heap.size 3 1 (.slice (some ⟨w.heap.size, 0, none⟩) n n) n (flatL encZ (szM (l.take k) n))) ∧ Hid (Below w.heap.size w wr)) (fun i _ _ => l.length - (intOf i).toNat)
  case atStart => exact ⟨0, Nat.zero_le _, rfl, HO, HB0⟩
  case round =>
    obtain ⟨k, hk, rfl, hrow, hB⟩ := hrel
    by_cases hlt : k < l.length
    · obtain ⟨b, off, rfl, hb, hx, _, _⟩ := (HS.out.below hB.out).msg hlt
      have hx32 := HU.out l[k] (List.getElem_mem _)
      have hjn : l[k].u % n < (szM (l.take k) n).length := by rw [szM_len]; exact Nat.mod_lt _ h0
      have HT := Lib.hid (szM_take (n := n) hlt rfl hjn)
      have hle := szM_le (l.take k) n hjn
      have hle2 := List.length_take_le k l
      have hmod : Int.tmod (l[k].u : Int) (n : Int) = ((l[k].u % n : Nat) : Int) := by
        rw [Int.tmod_eq_emod_of_nonneg (by omega)]
        rfl
      have HCE := Lib.hid (hrow.out.cellAt (l[k].u % n) (by rw [szM_len] at hjn; omega))
      have HFL := Lib.hid (flatL_at encZ_len (szM (l.take k) n) (l[k].u % n) _ (List.getElem?_eq_getElem hjn) 0 _ rfl)
      have hfz := hrow.out.frozenAt (l[k].u % n)
      have hj2 : l[k].u % n < n := Nat.mod_lt _ h0
      have HST := Lib.hid (hrow.out.stored (l[k].u % n) (.int .i64 (((szM (l.take k) n)[l[k].u % n] + 1 : Nat) : Int))).1
      have HEQ := Lib.hid (show (flatL encZ (szM (l.take k) n)).set (l[k].u % n) (.int .i64 (((szM (l.take k) n)[l[k].u % n] + 1 : Nat) : Int)) = flatL encZ (szM (l.take (k + 1)) n) by
        rw [HT.out, flatZ, flatZ, List.map_set])
      generalize (szM (l.take k) n)[l[k].u % n] = y at *
      generalize l[k].u % n = j at *
      generalize l[k].u = x at *
      have hce : wr.cell? ⟨w.heap.size, j, none⟩ = some (.int .i64 (y : Int)) := by
        rw [HCE.out]
        simpa using HFL.out
      have HB2 := Lib.hid (fun u : Value => show Below w.heap.size w (wr.setCell ⟨w.heap.size, j, none⟩ u) from hB.out.setCell (Nat.le_refl _) u)
      have hx0 : (0 : Int) ≤ (x : Int) := by omega
      have hj0 : (0 : Int) ≤ (j : Int) := by omega
      have hjI : (j : Int) < (n : Int) := by omega
      clear HT HCE HFL
      go_wp2_with fail
      go_roundw
      case rel => exact ⟨k + 1, by omega, by go_num, by rw [← HEQ.out]; exact HST, HB2.out _⟩
      case measure => simp [intOf]; omega
    · obtain rfl : k = l.length := by omega
      rw [List.take_length] at hrow
      go_wp2_with fail
      go_ret
      exact ⟨_, rfl, by rw [szM_len]; exact hrow.out, hB.out⟩
end
end Go.Proofs.Ytcfpdflaabfdkaa

namespace Go.Proofs.Ytcfpdflaabfdkaa
open Go.RowKit

/-- The message with an identifier. -/
def getM (l : List MI) (u : Nat) : Option MI := l.find? fun m => decide (m.u = u)
theorem getM_nil (u : Nat) : getM [] u = none := rfl
theorem getM_cons (m : MI) (l : List MI) (u : Nat) : getM (m :: l) u = if m.u = u then some m else getM l u := by
  unfold getM
  by_cases h : m.u = u
  · rw [if_pos h, List.find?_cons_of_pos (by simpa using h)]
  · rw [if_neg h, List.find?_cons_of_neg (by simpa using h)]
theorem getM_u {l : List MI} {u : Nat} {m : MI} (h : getM l u = some m) : m.u = u := by
  have := List.find?_some h
  simpa using this
theorem getM_mem {l : List MI} {u : Nat} {m : MI} (h : getM l u = some m) : m ∈ l := List.mem_of_find?_eq_some h
theorem getM_none {l : List MI} {u : Nat} : getM l u = none ↔ ∀ m ∈ l, m.u ≠ u := by
  unfold getM
  rw [List.find?_eq_none]
  simp
theorem fdI_get (l : List MI) (u : Nat) : (fdI l u = -1 ∧ getM l u = none) ∨ ∃ k, ∃ hk : k < l.length, fdI l u = (k : Int) ∧ getM l u = some l[k] ∧ l[k].u = u := by
  rcases fdI_cases l u with ⟨h1, h2⟩ | ⟨k, hk, h1, h2, h3⟩
  · exact .inl ⟨h1, getM_none.2 h2⟩
  · refine .inr ⟨k, hk, h1, ?_, h2⟩
    unfold getM
    rw [List.find?_eq_some_iff_getElem]
    exact ⟨by simpa using h2, k, hk, rfl, fun j hj => by simpa using h3 j hj⟩
theorem getM_append (l : List MI) (m : MI) (v : Nat) (h : getM l m.u = none) : getM (l ++ [m]) v = if v = m.u then some m else getM l v := by
  induction l with
  | nil =>
    rw [List.nil_append, getM_cons]
    by_cases hv : m.u = v
    · rw [if_pos hv, if_pos hv.symm]
    · rw [if_neg hv, if_neg fun e => hv e.symm]
  | cons y l ih =>
    rw [getM_cons] at h
    have hy : y.u ≠ m.u := by
      intro e
      rw [if_pos e] at h
      cases h
    rw [if_neg hy] at h
    rw [List.cons_append, getM_cons, getM_cons, ih h]
    by_cases hv : v = m.u
    · rw [if_pos hv, if_pos hv, if_neg fun e => hy (e.trans hv)]
    · rw [if_neg hv, if_neg hv]
theorem getM_rem (l : List MI) (u v : Nat) : getM (remM l u) v = if v = u then none else getM l v := by
  induction l with
  | nil => simp [remM, getM]
  | cons y l ih =>
    have e : remM (y :: l) u = if y.u = u then remM l u else y :: remM l u := by
      unfold remM
      by_cases h : y.u = u
      · rw [if_pos h, List.filter_cons_of_neg (by simpa using h)]
      · rw [if_neg h, List.filter_cons_of_pos (by simpa using h)]
    rw [e, getM_cons]
    by_cases h : y.u = u
    · rw [if_pos h, ih]
      by_cases hv : v = u
      · rw [if_pos hv, if_pos hv]
      · rw [if_neg hv, if_neg hv, if_neg fun e => hv (e.symm.trans h)]
    · rw [if_neg h, getM_cons, ih]
      by_cases hv : v = u
      · rw [if_pos hv, if_pos hv, if_neg fun e => h (e.trans hv)]
      · rw [if_neg hv, if_neg hv]
theorem getM_set (l : List MI) (k x : Nat) (hk : k < l.length) (hf : fdI l l[k].u = (k : Int)) (v : Nat) :
    getM (l.set k { l[k] with f := x }) v = if v = l[k].u then some { l[k] with f := x } else getM l v := by
  induction l generalizing k with
  | nil => simp at hk
  | cons y l ih =>
    cases k with
    | zero =>
      rw [List.set_cons_zero, getM_cons, getM_cons]
      show (if y.u = v then _ else _) = if v = y.u then _ else _
      by_cases hv : v = y.u
      · rw [if_pos hv, if_pos hv.symm]
      · rw [if_neg hv, if_neg fun e => hv e.symm, if_neg fun e => hv e.symm]
    | succ k =>
      have hk' : k < l.length := by simpa using hk
      have hg : (y :: l)[k + 1] = l[k] := rfl
      rw [hg] at hf ⊢
      have hy : y.u ≠ l[k].u := by
        intro e
        unfold fdI at hf
        rw [if_pos e] at hf
        omega
      have hf2 : fdI l l[k].u = (k : Int) := by
        unfold fdI at hf
        rw [if_neg hy] at hf
        simp only at hf
        split at hf <;> omega
      rw [List.set_cons_succ, getM_cons, getM_cons, ih k hk' hf2]
      by_cases hv : v = l[k].u
      · rw [if_pos hv, if_pos hv, if_neg fun e => hy (e.trans hv)]
      · rw [if_neg hv, if_neg hv]

/-- No identifier twice, and each message is one that Put takes. -/
structure GoodM (l : List MI) : Prop where
  nd : (l.map (·.u)).Nodup
  ok : ∀ m ∈ l, 0 < m.u ∧ m.u ≤ 4294967295 ∧ m.f ≤ 31 ∧ m.b.length ≤ 65536
theorem GoodM.nil : GoodM [] := ⟨List.nodup_nil, fun m h => by cases h⟩
theorem GoodM.put {l : List MI} {m : MI} (h : GoodM l) (hm : getM l m.u = none) (h1 : 0 < m.u ∧ m.u ≤ 4294967295 ∧ m.f ≤ 31 ∧ m.b.length ≤ 65536) : GoodM (l ++ [m]) := by
  refine ⟨?_, fun x hx => ?_⟩
  · rw [List.map_append]
    refine List.nodup_append.2 ⟨h.nd, by simp, fun a ha b hb => ?_⟩
    obtain ⟨y, hy, rfl⟩ := List.mem_map.1 ha
    obtain rfl : b = m.u := by simpa using hb
    exact getM_none.1 hm y hy
  · rcases List.mem_append.1 hx with hx | hx
    · exact h.ok x hx
    · obtain rfl : x = m := by simpa using hx
      exact h1
theorem GoodM.rem {l : List MI} (h : GoodM l) (u : Nat) : GoodM (remM l u) :=
  ⟨h.nd.sublist ((List.filter_sublist).map _), fun m hm => h.ok m (List.mem_filter.1 hm).1⟩
theorem GoodM.set {l : List MI} (h : GoodM l) (k x : Nat) (hk : k < l.length) (hx : x ≤ 31) : GoodM (l.set k { l[k] with f := x }) := by
  refine ⟨?_, fun m hm => ?_⟩
  · have e : (l.set k { l[k] with f := x }).map (·.u) = l.map (·.u) := by
      rw [List.map_set]
      have : ({ l[k] with f := x } : MI).u = (l.map (·.u))[k]'(by simpa using hk) := by simp
      rw [this, List.set_getElem_self]
    rw [e]
    exact h.nd
  · rcases List.mem_or_eq_of_mem_set hm with hm | rfl
    · exact h.ok m hm
    · obtain ⟨h1, h2, _, h4⟩ := h.ok l[k] (List.getElem_mem _)
      exact ⟨h1, h2, hx, h4⟩
theorem GoodM.get {l : List MI} (h : GoodM l) {m : MI} (hm : m ∈ l) : getM l m.u = some m := by
  have h0 := h.nd
  clear h
  induction l with
  | nil => cases hm
  | cons y l ih =>
    rw [List.map_cons, List.nodup_cons] at h0
    rw [getM_cons]
    rcases List.mem_cons.1 hm with rfl | hm
    · rw [if_pos rfl]
    · rw [if_neg, ih hm h0.2]
      intro e
      exact h0.1 (e ▸ List.mem_map.2 ⟨m, hm, rfl⟩)
theorem wiM_mem {l : List MI} (h : GoodM l) (f n : Nat) : n ∈ wiM l f ↔ ∃ m, getM l n = some m ∧ m.f &&& f = f := by
  unfold wiM
  rw [List.mem_map]
  constructor
  · rintro ⟨m, hm, rfl⟩
    obtain ⟨h1, h2⟩ := List.mem_filter.1 hm
    exact ⟨m, h.get h1, by simpa using h2⟩
  · rintro ⟨m, hm, hf⟩
    exact ⟨m, List.mem_filter.2 ⟨getM_mem hm, by simpa using hf⟩, getM_u hm⟩

/-- Two lists without repeats of the same members are of one length. -/
theorem nodup_len_eq {a b : List Nat} (ha : a.Nodup) (hb : b.Nodup) (h : ∀ n, n ∈ a ↔ n ∈ b) : a.length = b.length := ((List.perm_ext_iff_of_nodup ha hb).2 h).length_eq
/-- A stripe's size: the number of its identifiers, each named once. -/
theorem szM_keys {l : List MI} (h : GoodM l) (n : Nat) {i : Nat} (hi : i < (szM l n).length) {K : List Nat} (hK : K.Nodup) (hmem : ∀ u, u ∈ K ↔ u % n = i ∧ (getM l u).isSome) : (szM l n)[i] = K.length := by
  rw [szM_at]
  have e : (l.filter fun m => decide (m.u % n = i)).length = ((l.filter fun m => decide (m.u % n = i)).map (·.u)).length := by rw [List.length_map]
  rw [e]
  refine nodup_len_eq (h.nd.sublist ((List.filter_sublist).map _)) hK fun u => ?_
  rw [hmem, List.mem_map]
  constructor
  · rintro ⟨m, hm, rfl⟩
    obtain ⟨h1, h2⟩ := List.mem_filter.1 hm
    exact ⟨by simpa using h2, by rw [h.get h1]; rfl⟩
  · rintro ⟨h1, h2⟩
    obtain ⟨m, hm⟩ := Option.isSome_iff_exists.1 h2
    have hu := getM_u hm
    exact ⟨m, List.mem_filter.2 ⟨getM_mem hm, by rw [hu]; simpa using h1⟩, hu⟩
theorem sum_set : ∀ (L : List Nat) (j : Nat) (hj : j < L.length), (L.set j (L[j] + 1)).sum = L.sum + 1
  | [], j, hj => by simp at hj
  | x :: L, 0, _ => by simp; omega
  | x :: L, j + 1, hj => by
    have := sum_set L j (by simpa using hj)
    simp only [List.set_cons_succ, List.sum_cons, List.getElem_cons_succ]
    omega
/-- The stripes together hold every message. -/
theorem szM_sum (l : List MI) (n : Nat) (hn : 0 < n) : (szM l n).sum = l.length := by
  have key : ∀ k, k ≤ l.length → (szM (l.take k) n).sum = k := by
    intro k
    induction k with
    | zero => intro _; rw [List.take_zero, szM_nil]; simp
    | succ k ih =>
      intro hk
      have hjn : l[k].u % n < (szM (l.take k) n).length := by rw [szM_len]; exact Nat.mod_lt _ hn
      rw [szM_take (n := n) (k := k) hk rfl hjn, sum_set, ih (by omega)]
  have := key l.length (Nat.le_refl _)
  rwa [List.take_length] at this
end Go.Proofs.Ytcfpdflaabfdkaa
