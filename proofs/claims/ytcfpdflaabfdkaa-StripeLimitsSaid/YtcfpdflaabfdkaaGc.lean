/- The reference's Change. -/
import Derived.Test.YtcfpdflaabfdkaaGb
import Derived.Test.YtcfpdflaabfdkaaGa
import Derived.WalkKit
import Derived.Deep.RegionHeld3
import Derived.Deep.DrawnRows
import Derived.Deep.Cut
import Derived.OwnWalk
import Derived.Laws.StructEq
namespace Go.Proofs.Ytcfpdflaabfdkaa
open Go.RowKit Go.Maps

set_option maxRecDepth 100000 in
set_option maxHeartbeats 1000000 in
theorem refChange_any (a b : Nat) (ha : a < 256) (hb : b < 256) (m : Int) (w : World) :
    Calls Try.prog 42 #[.int .i64 a, .int .i64 m, .int .i64 b] w fun e w' => e = .returned (.int .i64 (refO (changeO a m b))) ∧ w = w' := by
  by_cases hr : 31 < a ∨ 31 < b
  · rw [show changeO a m b = none from if_pos hr]
    by_cases h1 : 31 < a
    · clear hr
      go_enter Try.func42, Try.ntmps42
      go_wp2
      go_ret
      exact ⟨rfl, rfl⟩
    · have h2 : 31 < b := by omega
      clear hr
      go_enter Try.func42, Try.ntmps42
      go_wp2
      go_ret
      exact ⟨rfl, rfl⟩
  · have h1 : a ≤ 31 := by omega
    have h2 : b ≤ 31 := by omega
    have HC := Lib.hid (show changeO a m b = if m = 0 then some b else if m = 1 then some (a ||| b) else if m = 2 then some (a &&& (255 - b)) else none from if_neg hr)
    clear hr
    by_cases m0 : m = 0
    · subst m0
      rw [HC.out, if_pos rfl]
      clear HC
      go_enter Try.func42, Try.ntmps42
      go_wp2
      go_ret
      exact ⟨rfl, rfl⟩
    by_cases m1 : m = 1
    · subst m1
      rw [HC.out, if_neg m0, if_pos rfl]
      clear HC m0
      have R := Lib.hid (i64_or_nat a b (by omega) (by omega))
      go_enter Try.func42, Try.ntmps42
      go_wp2
      go_ret
      exact ⟨ret_int R.out, rfl⟩
    by_cases m2 : m = 2
    · subst m2
      rw [HC.out, if_neg m0, if_neg m1, if_pos rfl]
      clear HC m0 m1
      have R := Lib.hid (i64_andNot_nat a b (by omega) (by omega))
      go_enter Try.func42, Try.ntmps42
      go_wp2
      go_ret
      exact ⟨ret_int R.out, rfl⟩
    rw [HC.out, if_neg m0, if_neg m1, if_neg m2]
    clear HC
    have b0 : (m == 0) = false := by simpa using m0
    have b1 : (m == 1) = false := by simpa using m1
    have b2 : (m == 2) = false := by simpa using m2
    clear m0 m1 m2
    go_enter Try.func42, Try.ntmps42
    go_wp2
    go_ret
    exact ⟨rfl, rfl⟩
end Go.Proofs.Ytcfpdflaabfdkaa

namespace Go.Proofs.Ytcfpdflaabfdkaa
open Go.RowKit

section
variable {A : Option Addr} {c : Nat} {l : List MI} {w : World}
set_option maxRecDepth 100000 in
set_option maxHeartbeats 1000000 in
theorem rfind13_any (u : Nat) (hl : l.length ≤ 100000) (hS : SlAt encM 3 w A l) :
    Calls Try.prog 26 #[.slice A l.length c, .int .u32 u] w fun e w' => e = .returned (.int .i64 (fdI l u)) ∧ w = w' := by
  have HS := Lib.hid hS
  clear hS
  go_enter Try.func26, Try.ntmps26
  go_wp2_with fail
  go_loopw [5] (fun i wr => ∃ k : Nat, k ≤ l.length ∧ i = .int .i64 k ∧ w = wr ∧ Hid (∀ j (hj : j < l.length), j < k → l[j].u ≠ u)) (fun i _ => l.length - (intOf i).toNat)
  case atStart => exact ⟨0, Nat.zero_le _, rfl, rfl, fun j _ h => absurd h (Nat.not_lt_zero _)⟩
  case round =>
    obtain ⟨k, hk, rfl, rfl, hu⟩ := hrel
    by_cases hlt : k < l.length
    · obtain ⟨b, off, rfl, hb, hx, _, _⟩ := HS.out.msg hlt
      by_cases hxu : l[k].u = u
      · have HE := Lib.hid (fdI_yes hlt (fun j hj => hu.out j (Nat.lt_trans hj hlt) hj) hxu)
        rw [hxu] at hx
        clear hu hxu
        go_wp2_with fail
        go_ret
        exact ⟨by rw [HE.out]; rfl, rfl⟩
      · have HN := Lib.hid (show ∀ j (hj : j < l.length), j < k + 1 → l[j].u ≠ u by
          intro j hj h
          rcases Nat.lt_or_ge j k with h2 | h2
          · exact hu.out j hj h2
          · obtain rfl : j = k := by omega
            exact hxu)
        have hxi : ((l[k].u : Int) == (u : Int)) = false := by simp; omega
        clear hu
        generalize l[k].u = x at *
        go_wp2_with fail
        go_roundw
        case rel => exact ⟨k + 1, by omega, by go_num, trivial, HN⟩
        case measure => simp [intOf]; omega
    · obtain rfl : k = l.length := by omega
      have HE := Lib.hid (show fdI l u = -1 from fdI_no (fun m hm => by
        obtain ⟨j, hj, rfl⟩ := List.mem_iff_getElem.1 hm
        exact hu.out j hj hj))
      clear hu
      go_wp2_with fail
      go_ret
      exact ⟨by rw [HE.out]; rfl, rfl⟩
end
end Go.Proofs.Ytcfpdflaabfdkaa

namespace Go.Proofs.Ytcfpdflaabfdkaa
open Go.RowKit
attribute [local go_sem ↓] Go.wp_at_zero Go.wp_at_succ

/-- A message in the block b. -/
def M3 (W : World) (b : Nat) (m : MI) : Prop := W.heap[b]? = some (.cells #[.int .u32 (m.u : Int), .int .u8 (m.f : Int), .slice m.A m.b.length m.k] 33)
section
variable {W W' : World} {b : Nat} {m : MI}
theorem M3.new (h : b = W.heap.size) : M3 (W.alloc (.cells #[.int .u32 (m.u : Int), .int .u8 (m.f : Int), .slice m.A m.b.length m.k] 33)) b m := heap_new1 _ _ h
theorem M3.lt (h : M3 W b m) : b < W.heap.size := (Array.getElem?_eq_some_iff.1 h).1
theorem M3.below (h : M3 W b m) (hb : Below W.heap.size W W') : M3 W' b m := (hb.block b h.lt).trans h
theorem M3.grown {row : Option Nat} (h : M3 W b m) (hg : W.grownBy W' row) (hne : some b ≠ row) : M3 W' b m := (hg.block b h.lt hne).trans h
theorem M3.draw (h : M3 W b m) : M3 W.drew b m := h
theorem M3.past (h : M3 W b m) (o : Obj) : M3 (W.alloc o) b m := h.below (below_al W o)
theorem M3.cells (h : M3 W b m) : W.cell? ⟨b, 0, none⟩ = some (.int .u32 (m.u : Int)) ∧ W.cell? ⟨b, 1, none⟩ = some (.int .u8 (m.f : Int)) ∧ W.cell? ⟨b, 2, none⟩ = some (.slice m.A m.b.length m.k) := cells3 h
theorem M3.sl (h : M3 W b m) : SlAt encM 3 W (some ⟨b, 0, none⟩) [m] := by
  refine .inr ⟨b, 0, rfl, h.lt, fun j y hj i v hi => ?_⟩
  obtain rfl : j = 0 := by
    have := (List.getElem?_eq_some_iff.1 hj).1
    simpa using this
  obtain rfl : m = y := by simpa using hj
  obtain ⟨h0, h1, h2⟩ := h.cells
  match i, hi with
  | 0, hi => obtain rfl : _ = v := by simpa [encM] using hi
             simpa using h0
  | 1, hi => obtain rfl : _ = v := by simpa [encM] using hi
             simpa using h1
  | 2, hi => obtain rfl : _ = v := by simpa [encM] using hi
             simpa using h2
end
theorem keepM {a w : World} {b : Nat} {v0 v1 v2 : Value} (hb : b < a.heap.size) (h0 : a.cell? ⟨b, 0, none⟩ = some v0) (h1 : a.cell? ⟨b, 1, none⟩ = some v1) (h2 : a.cell? ⟨b, 2, none⟩ = some v2) (h : Below a.heap.size a w) :
    w.cell? ⟨b, 0, none⟩ = some v0 ∧ w.cell? ⟨b, 1, none⟩ = some v1 ∧ w.cell? ⟨b, 2, none⟩ = some v2 ∧ Below a.heap.size a w :=
  ⟨(h.cell (p := ⟨b, 0, none⟩) hb).trans h0, (h.cell (p := ⟨b, 1, none⟩) hb).trans h1, (h.cell (p := ⟨b, 2, none⟩) hb).trans h2, h⟩

/-- What Put gives. -/
def putM (l : List MI) (m : MI) : List MI × Int := if m.u = 0 ∨ 31 < m.f ∨ 65536 < m.b.length then (l, 2) else if 0 ≤ fdI l m.u then (l, 8) else (l ++ [m], 0)

section
variable {A : Option Addr} {c : Nat} {l : List MI} {w : World}
set_option maxRecDepth 100000 in
set_option maxHeartbeats 1000000 in
theorem rput13_bad (m : MI) (h : m.u = 0 ∨ 31 < m.f ∨ 65536 < m.b.length) :
    Calls Try.prog 27 #[.slice A l.length c, msV m] w fun e w' => e = .returned (.tuple #[.slice A l.length c, .int .i64 2]) ∧ Below w.heap.size w w' := by
  unfold msV
  generalize l.length = n at *
  by_cases h0 : m.u = 0
  · rw [h0]
    generalize m.b.length = bl at *
    clear h
    go_enter Try.func27, Try.ntmps27
    go_wp2_with fail
    go_ret2
    exact ⟨rfl, below_al _ _⟩
  · have hu : ((m.u : Int) == 0) = false := by simp; omega
    by_cases h1 : 31 < m.f
    · have hf : (31 : Int) < (m.f : Int) := by omega
      generalize m.b.length = bl at *
      generalize m.u = u at *
      generalize m.f = f at *
      clear h h1
      go_enter Try.func27, Try.ntmps27
      go_wp2_with fail
      go_ret2
      exact ⟨rfl, below_al _ _⟩
    · have hf : ¬ (31 : Int) < (m.f : Int) := by omega
      have hb : (65536 : Int) < (m.b.length : Int) := by omega
      generalize m.b.length = bl at *
      generalize m.u = u at *
      generalize m.f = f at *
      clear h h1
      go_enter Try.func27, Try.ntmps27
      go_wp2_with fail
      go_ret2
      exact ⟨rfl, below_al _ _⟩

set_option maxRecDepth 100000 in
set_option maxHeartbeats 1000000 in
theorem rput13_dup (m : MI) (h : ¬ (m.u = 0 ∨ 31 < m.f ∨ 65536 < m.b.length)) (hd : 0 ≤ fdI l m.u) (hl : l.length ≤ 100000) (hS : SlAt encM 3 w A l) :
    Calls Try.prog 27 #[.slice A l.length c, msV m] w fun e w' => e = .returned (.tuple #[.slice A l.length c, .int .i64 8]) ∧ Below w.heap.size w w' := by
  unfold msV
  have hu : ((m.u : Int) == 0) = false := by simp; omega
  have hf : ¬ (31 : Int) < (m.f : Int) := by omega
  have hb : ¬ (65536 : Int) < (m.b.length : Int) := by omega
  have FD := Lib.hid (fun W (hB : Below w.heap.size w W) => rfind13_any (c := c) m.u hl (hS.below hB))
  have HB := Lib.hid (fun o => below_al w o)
  generalize m.b.length = bl at *
  generalize fdI l m.u = d at *
  generalize m.u = u at *
  generalize m.f = f at *
  clear h hS
  go_enter Try.func27, Try.ntmps27
  go_wp2_with fail
  refine (FD.out _ (HB.out _)).mono ?_
  rintro e w1 ⟨rfl, rfl⟩
  go_wp2_with fail
  go_ret2
  exact ⟨rfl, HB.out _⟩
set_option maxRecDepth 100000 in
set_option maxHeartbeats 4000000 in
theorem rput13_yes (m : MI) (h : ¬ (m.u = 0 ∨ 31 < m.f ∨ 65536 < m.b.length)) (hd : ¬ 0 ≤ fdI l m.u) (hl : l.length ≤ 100000) (hS : SlAt encM 3 w A l) :
    Calls Try.prog 27 #[.slice A l.length c, msV m] w fun e w' => ∃ v, e = .returned (.tuple #[v, .int .i64 0]) ∧ w'.ownsRow w.heap.size 33 3 v (l ++ [m]).length (flatL encM (l ++ [m])) ∧ Below w.heap.size w w' := by
  unfold msV
  obtain ⟨i0, hi, hz0, hz1, hz2⟩ := info_parts infoM
  have hu : ((m.u : Int) == 0) = false := by simp; omega
  have hf : ¬ (31 : Int) < (m.f : Int) := by omega
  have hb : ¬ (65536 : Int) < (m.b.length : Int) := by omega
  have FD := Lib.hid (fun W (hB : Below w.heap.size w W) => rfind13_any (c := c) m.u hl (hS.below hB))
  have HB := Lib.hid (fun o => below_al w o)
  have HF := Lib.hid (show ¬ 0 ≤ fdI l m.u from hd)
  have hd1 : fdI l m.u < 0 := by omega
  generalize hdd : fdI l m.u = d at *
  clear h hd
  go_enter Try.func27, Try.ntmps27
  go_wp2_with fail
  refine (FD.out _ (HB.out _)).mono ?_
  rintro e w1 ⟨rfl, rfl⟩
  go_upto_region 5 with (fail)
  obtain ⟨k0, k1, k2⟩ := (M3.new (W := w) (m := m) rfl).cells
  have hg : w.heap.size < (w.alloc (.cells #[.int .u32 (m.u : Int), .int .u8 (m.f : Int), .slice m.A m.b.length m.k] 33)).heap.size := by simp
  have HBB := Lib.hid (HB.out (.cells #[.int .u32 (m.u : Int), .int .u8 (m.f : Int), .slice m.A m.b.length m.k] 33))
  generalize w.alloc (.cells #[.int .u32 (m.u : Int), .int .u8 (m.f : Int), .slice m.A m.b.length m.k] 33) = wr at *
  have hP1 : ∀ W, Below wr.heap.size wr W → SlAt encM 3 W A l := fun W hW => hS.below (below_next HBB.out hW)
  generalize hgw : w.heap.size = g at *
  go_region_held3 (fun w' => w'.cell? ⟨g, 0, none⟩ = some (.int .u32 (m.u : Int)) ∧ w'.cell? ⟨g, 1, none⟩ = some (.int .u8 (m.f : Int)) ∧ w'.cell? ⟨g, 2, none⟩ = some (.slice m.A m.b.length m.k) ∧ Below wr.heap.size wr w')
    ((refine keepM hg k0 k1 k2 ?_; repeat (first | assumption | exact Below.refl _ _ | refine belowDrawN ?_ _ | refine belowDraw ?_ | refine belowAlloc ?_ _)))
    (first
      | (refine step_append_slm _ (by rfl) _ _ _ (by rfl) wr.heap.size 33 i0 _ 32 Try.underlying28 hi hz0 hz1 hz2 rfl (by decide) _ 0 [] (by rfl) (own_empty (by first | exact heap_alloc_new _ _ | exact (Below.heap_alloc _ _ _ (by simp)).trans (heap_alloc_new _ _) | exact heap_new1 _ _ (by simp)) (by simp)) A l _ _ (by rfl) rfl encM_len (hP1 _ (by repeat (first | assumption | exact Below.refl _ _ | refine belowDrawN ?_ _ | refine belowDraw ?_ | refine belowAlloc ?_ _))) (one_flatM _) (by unfold maxLen; omega) (by omega) (bsz (a := wr) (by repeat (first | assumption | exact Below.refl _ _ | refine belowDrawN ?_ _ | refine belowDraw ?_ | refine belowAlloc ?_ _))) ?_
         intro v1 w1 hown1 hgrow1
         have hB1 : Below wr.heap.size wr w1 := bgr (a := wr) (by repeat (first | assumption | exact Below.refl _ _ | refine belowDrawN ?_ _ | refine belowDraw ?_ | refine belowAlloc ?_ _)) hgrow1 (by intro kk hkk; simp [Value.ownBlock] at hkk; omega))
      | (refine step_append_slm _ (by rfl) _ _ _ (by rfl) wr.heap.size 33 i0 _ 32 Try.underlying28 hi hz0 hz1 hz2 rfl (by decide) v1 _ _ (by rfl) (by first | exact hown1 | exact hown1.alloc _) _ [m] _ _ (by rfl) (by rfl) encM_len (M3.sl (by repeat (first | exact M3.new (by rfl) | exact M3.new (by simp) | refine M3.grown ?_ hgrow1 (by simp [Value.ownBlock]) | refine M3.draw ?_ | refine M3.past ?_ _))) (one_flatM _) (by simp only [List.length_singleton, maxLen]; omega) (by simp only [List.length_singleton]; omega) (bsz (a := wr) (by repeat (first | assumption | exact Below.refl _ _ | refine belowDrawN ?_ _ | refine belowDraw ?_ | refine belowAlloc ?_ _))) ?_
         intro v2 w2 hown2 hgrow2
         have hB2 : Below wr.heap.size wr w2 := bgr (a := wr) (by repeat (first | assumption | exact Below.refl _ _ | refine belowDrawN ?_ _ | refine belowDraw ?_ | refine belowAlloc ?_ _)) hgrow2 (fun kk hkk => (hown1.lt kk hkk).1)))
  all_goals
    go_wp2_with fail
    go_ret2
    subst hgw
    refine ⟨_, rfl, ?_, below_next HBB.out hB2⟩
    have hfin := own_mono hown2 (Nat.le_of_lt hg)
    rw [List.length_append, flatL_append]
    rw [Nat.zero_add, List.nil_append] at hfin
    exact hfin
end
end Go.Proofs.Ytcfpdflaabfdkaa

namespace Go.Proofs.Ytcfpdflaabfdkaa
open Go.RowKit


theorem flatM_set (x : Nat) : ∀ (l : List MI) (k : Nat) (hk : k < l.length), (flatL encM l).set (k * 3 + 1) (.int .u8 (x : Int)) = flatL encM (l.set k { l[k] with f := x }) := by
  intro l
  induction l with
  | nil => intro k hk; simp at hk
  | cons m l ih =>
    intro k hk
    have e : ∀ (y : MI) (t : List MI), flatL encM (y :: t) = encM y ++ flatL encM t := fun _ _ => rfl
    cases k with
    | zero => rfl
    | succ k =>
      have hk' : k < l.length := by simpa using hk
      rw [e, List.set_append_right _ _ (by simp [encM]; omega)]
      have e2 : (k + 1) * 3 + 1 - (encM m).length = k * 3 + 1 := by simp [encM]; omega
      rw [e2, ih k hk']
      rfl

section
variable {A : Option Addr} {c : Nat} {l : List MI} {w : World}
set_option maxRecDepth 100000 in
set_option maxHeartbeats 1000000 in
theorem rflags13_none (u f : Nat) (mo : Int) (hd : fdI l u = -1) (hl : l.length ≤ 100000) (hS : SlAt encM 3 w A l) :
    Calls Try.prog 28 #[.slice A l.length c, .int .u32 u, .int .i64 mo, .int .u8 f] w fun e w' => e = .returned (.tuple #[.slice A l.length c, .int .i64 0, .int .i64 7]) ∧ w = w' := by
  have FD := Lib.hid (rfind13_any (c := c) u hl hS)
  rw [hd] at FD
  clear hS hd
  go_enter Try.func28, Try.ntmps28
  go_wp2_with fail
  refine FD.out.mono ?_
  rintro e w1 ⟨rfl, rfl⟩
  go_wp2_with fail
  go_ret3
  exact ⟨rfl, rfl⟩

set_option maxRecDepth 100000 in
set_option maxHeartbeats 1000000 in
theorem rflags13_bad (u f k : Nat) (mo : Int) (hk : k < l.length) (hd : fdI l u = (k : Int)) (hm : l[k].f < 256) (hf : f < 256) (hc : changeO l[k].f mo f = none) (hl : l.length ≤ 100000) (hS : SlAt encM 3 w A l) :
    Calls Try.prog 28 #[.slice A l.length c, .int .u32 u, .int .i64 mo, .int .u8 f] w fun e w' => e = .returned (.tuple #[.slice A l.length c, .int .i64 0, .int .i64 2]) ∧ w = w' := by
  have FD := Lib.hid (rfind13_any (c := c) u hl hS)
  rw [hd] at FD
  have CH := Lib.hid (refChange_any l[k].f f hm hf mo w)
  rw [hc] at CH
  unfold refO at CH
  obtain ⟨b, off, rfl, _, _, h1, _⟩ := hS.msg hk
  generalize l[k].f = y at *
  have hy : ((y : Nat) : Int) < 256 := by omega
  have hfi : ((f : Nat) : Int) < 256 := by omega
  clear hS hd hc
  go_enter Try.func28, Try.ntmps28
  go_wp2_with fail
  refine FD.out.mono ?_
  rintro e w1 ⟨rfl, rfl⟩
  go_wp2_with fail
  refine CH.out.mono ?_
  rintro e w1 ⟨rfl, rfl⟩
  go_wp2_with fail
  go_ret3
  exact ⟨rfl, rfl⟩

set_option maxRecDepth 100000 in
set_option maxHeartbeats 1000000 in
theorem rflags13_ok (u f k x : Nat) (mo : Int) (hk : k < l.length) (hd : fdI l u = (k : Int)) (hm : l[k].f < 256) (hf : f < 256) (hc : changeO l[k].f mo f = some x) (hx : x < 256) (hl : l.length ≤ 100000) (hS : SlAt encM 3 w A l) :
    Calls Try.prog 28 #[.slice A l.length c, .int .u32 u, .int .i64 mo, .int .u8 f] w fun e w' => ∃ v, e = .returned (.tuple #[v, .int .i64 (x : Int), .int .i64 0]) ∧
      w'.ownsRow w.heap.size 33 3 v (l.set k { l[k] with f := x }).length (flatL encM (l.set k { l[k] with f := x })) ∧ Below w.heap.size w w' := by
  obtain ⟨i0, hi, hz0, hz1, hz2⟩ := info_parts infoM
  have FD := Lib.hid (rfind13_any (c := c) u hl hS)
  rw [hd] at FD
  have CH := Lib.hid (refChange_any l[k].f f hm hf mo w)
  rw [hc] at CH
  unfold refO at CH
  have HS := Lib.hid (hS.below (below_al w (.cells #[] 33)))
  have HOE := Lib.hid (own_empty (sz := 3) (heap_alloc_new w (.cells #[] 33)) (Nat.le_refl _))
  have HSET := Lib.hid (flatM_set x l k hk)
  have HLEN := Lib.hid (show (l.set k { l[k] with f := x }).length = l.length by simp)
  generalize l.set k { l[k] with f := x } = L at *
  have HFL := Lib.hid (flatL_at encM_len l k l[k] (List.getElem?_eq_getElem hk) 1 _ rfl)
  have H63 := Lib.hid (show 0 + l.length ≤ maxLen by unfold maxLen; omega)
  have HBY := Lib.hid (show (0 + l.length) * 32 ≤ 140737488355328 by omega)
  have HB0 := Lib.hid (below_al w (.cells #[] 33))
  have HSZ := Lib.hid HB0.out.size
  obtain ⟨b, off, rfl, _, _, h1, _⟩ := hS.msg hk
  generalize l[k].f = y at *
  have hy : ((y : Nat) : Int) < 256 := by omega
  have hfi : ((f : Nat) : Int) < 256 := by omega
  have hxi : ((x : Nat) : Int) < 256 := by omega
  have hx0 : ¬ ((x : Nat) : Int) < 0 := by omega
  have FIN := Lib.hid (fun (v2 : Value) (w2 : World) (hown2 : w2.ownsRow w.heap.size 33 3 v2 (0 + l.length) ([] ++ flatL encM l)) (hg2 : (w.alloc (.cells #[] 33)).grownBy w2 (some w.heap.size)) =>
    show w2.ownsRow w.heap.size 33 3 v2 l.length (flatL encM l) ∧ Below w.heap.size w w2 from ⟨by rw [Nat.zero_add, List.nil_append] at hown2; exact hown2, HB0.out.grown hg2 HSZ.out (fun kk hkk => by injection hkk; omega)⟩)
  clear hS hd hc
  have hkI : (k : Int) < (l.length : Int) := by omega
  have hk0 : (0 : Int) ≤ (k : Int) := by omega
  go_enter Try.func28, Try.ntmps28
  go_wp2_with fail
  refine FD.out.mono ?_
  rintro e w1 ⟨rfl, rfl⟩
  go_wp2_with fail
  refine CH.out.mono ?_
  rintro e w1 ⟨rfl, rfl⟩
  go_wp2_with ((at_builtin; refine wpList_append_sl _ rfl _ _ 28 rfl w.heap.size 33 i0 _ 32 Try.underlying28 hi hz0 hz1 hz2 rfl (by decide) _ 0 [] rfl HOE.out (some ⟨b, off, none⟩) l c rfl encM_len HS.out (one_flatM l) H63.out HBY.out HSZ.out ?_; intro v2 w2 hown2 hg2; obtain ⟨hr2, hb2⟩ := FIN.out v2 w2 hown2 hg2; obtain ⟨g2, cap2, rfl, hg20, hg21⟩ := hr2.form (by omega); have hfz := hr2.frozenAt (k * 3 + 1); have hce := (hr2.cellAt (k * 3 + 1) (by omega)).trans HFL.out; obtain ⟨hst, hcl⟩ : (w2.setCell ⟨g2, k * 3 + 1, none⟩ (.int .u8 (x : Int))).ownsRow w.heap.size 33 3 (.slice (some ⟨g2, 0, none⟩) l.length cap2) l.length (flatL encM L) ∧ Below w.heap.size w (w2.setCell ⟨g2, k * 3 + 1, none⟩ (.int .u8 (x : Int))) := ⟨HSET.out ▸ (hr2.stored (k * 3 + 1) _).1, hb2.setCell hg20 _⟩; clear hown2 hg2 FIN hr2 hb2))
  go_ret3
  exact ⟨_, rfl, by rw [HLEN.out]; exact hst, hcl⟩
end
end Go.Proofs.Ytcfpdflaabfdkaa

namespace Go.Proofs.Ytcfpdflaabfdkaa
open Go.RowKit

def remM (l : List MI) (u : Nat) : List MI := l.filter fun m => !decide (m.u = u)
theorem remM_take {l : List MI} {u k : Nat} (hk : k < l.length) : remM (l.take (k + 1)) u = if l[k].u = u then remM (l.take k) u else remM (l.take k) u ++ [l[k]] := by
  unfold remM
  rw [List.take_succ_eq_append_getElem hk, List.filter_append]
  by_cases h : l[k].u = u
  · rw [if_pos h, List.filter_cons_of_neg (by simpa using h), List.filter_nil, List.append_nil]
  · rw [if_neg h, List.filter_cons_of_pos (by simpa using h), List.filter_nil]
theorem cells_new3 {W : World} {b : Nat} (hb : b = W.heap.size) (x y z : Value) (T : TypeId) : ∀ (j : Nat) (u : Value), [x, y, z][j]? = some u → (W.alloc (.cells #[x, y, z] T)).cell? ((⟨b, 0, none⟩ : Addr).add j) = some u := by
  subst hb
  intro j u hj
  rw [Addr.add_lit]
  match j, hj with
  | 0, hj => simp at hj; subst hj; simp
  | 1, hj => simp at hj; subst hj; simp
  | 2, hj => simp at hj; subst hj; simp

section
variable {A : Option Addr} {c : Nat} {l : List MI} {w : World}
set_option maxRecDepth 100000 in
set_option maxHeartbeats 1000000 in
theorem rremove13_any (u : Nat) (hl : l.length ≤ 100000) (hS : SlAt encM 3 w A l) :
    Calls Try.prog 29 #[.slice A l.length c, .int .u32 u] w fun e w' => ∃ v, e = .returned v ∧ w'.ownsRow w.heap.size 33 3 v (remM l u).length (flatL encM (remM l u)) ∧ Below w.heap.size w w' := by
  obtain ⟨i0, hi, hz0, hz1, hz2⟩ := info_parts infoM
  have HS := Lib.hid hS
  clear hS
  go_enter Try.func29, Try.ntmps29
  go_wp2_with fail
  go_loopw [5, 6] (fun v i wr => ∃ k : Nat, k ≤ l.length ∧ i = .int .i64 k ∧ Hid (wr.ownsRow w.heap.size 33 3 v (remM (l.take k) u).length (flatL encM (remM (l.take k) u))) ∧ Hid (Below w.heap.size w wr)) (fun _ i _ => l.length - (intOf i).toNat)
  case atStart => exact ⟨0, Nat.zero_le _, rfl, World.ownsRow_nil _ _ _ _, Below.refl _ _⟩
  case round =>
    obtain ⟨k, hk, rfl, hrow, hB⟩ := hrel
    by_cases hlt : k < l.length
    · obtain ⟨b, off, rfl, hb, hx, hx1, hx2⟩ := (HS.out.below hB.out).msg hlt
      have HT := Lib.hid (remM_take (u := u) hlt)
      have hrl : (remM (l.take k) u).length ≤ k := Nat.le_trans (List.length_filter_le _ _) (List.length_take_le _ _)
      obtain ⟨A', c', rfl⟩ := own_any hrow.out
      by_cases hxu : l[k].u = u
      · have HR := Lib.hid (show remM (l.take (k + 1)) u = remM (l.take k) u by rw [HT.out, if_pos hxu])
        rw [hxu] at hx
        clear hxu HT hx1 hx2
        go_wp2_with fail
        go_roundw
        case rel => exact ⟨k + 1, by omega, by go_num, by rw [HR.out]; exact hrow, hB⟩
        case measure => simp [intOf]; omega
      · have HR := Lib.hid (show remM (l.take (k + 1)) u = remM (l.take k) u ++ [l[k]] by rw [HT.out, if_neg hxu])
        have hxi : ((l[k].u : Int) == (u : Int)) = false := by simp; omega
        clear HT hxu
        generalize l[k] = m at *
        generalize remM (l.take k) u = Q at *
        have hBs := hB.out.size
        have HRW := Lib.hid (hrow.out.alloc (.cells #[.int .u32 (m.u : Int), .int .u8 (m.f : Int), .slice m.A m.b.length m.k] 33))
        go_wp2_with (at_builtin; refine wpList_append_own _ rfl _ _ 28 rfl w.heap.size 33 i0 _ 3 32 Try.underlying28 hi hz0 hz1 hz2 rfl (by decide) _ _ _ rfl HRW.out ⟨wr.heap.size, 0, none⟩ 1 1 [.int .u32 (m.u : Int), .int .u8 (m.f : Int), .slice m.A m.b.length m.k] rfl rfl (cells_new3 rfl _ _ _ _) (by intro u hu; simp at hu; rcases hu with rfl | rfl | rfl <;> rfl) (by unfold maxLen; omega) (by omega) (by simp; omega) ?_; intro v' wz hown' hgrow _; obtain ⟨A3, c3, rfl⟩ := own_any hown'; have HB2 := Lib.hid ((hB.out.alloc hBs (.cells #[.int .u32 (m.u : Int), .int .u8 (m.f : Int), .slice m.A m.b.length m.k] 33)).grown hgrow (by simp; omega) (fun k hk => (hrow.out.lt k hk).1)); have HO2 := Lib.hid hown'; clear hown' hgrow)
        go_roundw
        case rel => exact ⟨k + 1, by omega, by go_num, by rw [HR.out, List.length_append, flatL_append]; exact HO2, HB2⟩
        case measure => simp [intOf]; omega
    · obtain rfl : k = l.length := by omega
      rw [List.take_length] at hrow
      go_wp2_with fail
      go_ret
      exact ⟨_, rfl, hrow.out, hB.out⟩
end
end Go.Proofs.Ytcfpdflaabfdkaa

namespace Go.Proofs.Ytcfpdflaabfdkaa
open Go.RowKit

/-- Two messages are equal. -/
def sameM (a b : MI) : Bool := ((a.u : Int) == (b.u : Int)) && ((a.f : Int) == (b.f : Int)) && (a.b == b.b)
theorem sameM_iff {a b : MI} : sameM a b = true ↔ a.u = b.u ∧ a.f = b.f ∧ a.b = b.b := by
  simp only [sameM, Bool.and_eq_true, beq_iff_eq, and_assoc]
  constructor
  · rintro ⟨h1, h2, h3⟩
    exact ⟨by omega, by omega, h3⟩
  · rintro ⟨h1, h2, h3⟩
    exact ⟨by omega, by omega, h3⟩

set_option maxRecDepth 100000 in
set_option maxHeartbeats 2000000 in
theorem rsame13_go (a b : MI) (n1 n2 : Nat) (e1 : a.b.length = n1) (e2 : b.b.length = n2) (w : World) (s1 : ByAt w.heap.size w a.A a.k a.b) (s2 : ByAt w.heap.size w b.A b.k b.b) :
    Calls Try.prog 23 #[.agg #[.int .u32 (a.u : Int), .int .u8 (a.f : Int), .slice a.A n1 a.k], .agg #[.int .u32 (b.u : Int), .int .u8 (b.f : Int), .slice b.A n2 b.k]] w fun e w' => e = .returned (.bool (sameM a b)) ∧ Below w.heap.size w w' := by
  have B0 := below_next (below_al w (.cells #[.int .u32 (a.u : Int), .int .u8 (a.f : Int), .slice a.A n1 a.k] 33)) (below_al _ (.cells #[.int .u32 (b.u : Int), .int .u8 (b.f : Int), .slice b.A n2 b.k] 33))
  have C1 := convS _ _ a.A a.k n1 a.b (s1.below B0) e1
  have C2 := convS _ _ b.A b.k n2 b.b (s2.below B0) e2
  have HB0 := Lib.hid B0
  clear s1 s2 e1 e2 B0
  unfold sameM
  cases p0 : ((a.u : Int) == (b.u : Int)) with
  | false =>
    go_enter Try.func23, Try.ntmps23
    go_wp2_with fail
    go_ret
    exact ⟨by first | rfl | simp, HB0.out⟩
  | true =>
    cases p1 : ((a.f : Int) == (b.f : Int)) with
    | false =>
      go_enter Try.func23, Try.ntmps23
      go_wp2_with fail
      go_ret
      exact ⟨by first | rfl | simp, HB0.out⟩
    | true =>
      go_enter Try.func23, Try.ntmps23
      go_wp2_with fail
      go_ret
      exact ⟨by first | rfl | simp, HB0.out⟩
theorem rsame13_any (a b : MI) (w : World) (s1 : ByAt w.heap.size w a.A a.k a.b) (s2 : ByAt w.heap.size w b.A b.k b.b) :
    Calls Try.prog 23 #[msV a, msV b] w fun e w' => e = .returned (.bool (sameM a b)) ∧ Below w.heap.size w w' := rsame13_go a b _ _ rfl rfl w s1 s2
end Go.Proofs.Ytcfpdflaabfdkaa
