/- Layer 15's small functions: keyOf, Name, the closures that Push, Flush and Has hand on. -/
import Derived.Test.YtfmloifgngembaaEv
import Derived.Test.YtfmloifgngembaaMapK
import Derived.Test.YtfmloifgngembaaKeptO
import Derived.Laws.StructEq
import Derived.BigRegion
import Derived.Deep.CutBlock
import Derived.Deep.RegionHeld3
namespace Go.Proofs.Ytfmloifgngembaa
open Go.RowKit

/-- An event's key. -/
def kyE (x : EvI) : Ky := ⟨x.k, x.u⟩
theorem kyE_ok {x : EvI} (h : evOk x) : (kyE x).ok := ⟨h.1, h.2.1⟩
/-- A kind's name. -/
def nameE (k : Int) : ByteArray := if k = 1 then "arrived".toUTF8 else if k = 2 then "gone".toUTF8 else if k = 3 then "changed".toUTF8 else ⟨#[]⟩
theorem name1 : nameE 1 = ⟨#[97, 114, 114, 105, 118, 101, 100]⟩ := by decide +kernel
theorem name2 : nameE 2 = ⟨#[103, 111, 110, 101]⟩ := by decide +kernel
theorem name3 : nameE 3 = ⟨#[99, 104, 97, 110, 103, 101, 100]⟩ := by decide +kernel
set_option maxRecDepth 100000 in
theorem keyOfE_any (x : EvI) (w : World) : Calls Try.prog 34 #[evV x] w fun e w' => e = .returned (kyE x).v ∧ Below w.heap.size w w' := by
  have HB := Lib.hid (below_next (below_al w (.cells #[.int .i64 x.k, .int .u32 (x.u : Int), .int .u8 (x.f : Int)] 39)) (below_al _ (.cells #[.int .i64 x.k, .int .u32 (x.u : Int)] 59)))
  unfold evV kyE Ky.v
  go_enter Try.func34, Try.ntmps34
  go_wp2_with fail
  exact bodyPost_ret (v := .agg #[.int .i64 x.k, .int .u32 (x.u : Int)]) (by simp [results, Try.results34, go_sem]) rfl ⟨rfl, HB.out⟩
set_option maxRecDepth 100000 in
theorem qname_any (k : Int) (_hk : -9223372036854775808 ≤ k ∧ k ≤ 9223372036854775807) (w : World) : Calls Try.prog 29 #[.int .i64 k] w fun e w' => e = .returned (.string (nameE k)) ∧ Below w.heap.size w w' := by
  by_cases h1 : k = 1
  · subst h1
    rw [name1]
    go_enter Try.func29, Try.ntmps29
    go_wp2_with fail
    go_ret
    exact ⟨rfl, Below.refl _ _⟩
  · by_cases h2 : k = 2
    · subst h2
      rw [name2]
      clear h1
      go_enter Try.func29, Try.ntmps29
      go_wp2_with fail
      go_ret
      exact ⟨rfl, Below.refl _ _⟩
    · by_cases h3 : k = 3
      · subst h3
        rw [name3]
        clear h1 h2
        go_enter Try.func29, Try.ntmps29
        go_wp2_with fail
        go_ret
        exact ⟨rfl, Below.refl _ _⟩
      · have e1 : (k == 1) = false := beq_eq_false_iff_ne.2 h1
        have e2 : (k == 2) = false := beq_eq_false_iff_ne.2 h2
        have e3 : (k == 3) = false := beq_eq_false_iff_ne.2 h3
        rw [show nameE k = ⟨#[]⟩ by unfold nameE; rw [if_neg h1, if_neg h2, if_neg h3]]
        clear h1 h2 h3
        go_enter Try.func29, Try.ntmps29
        go_wp2_with fail
        go_ret
        exact ⟨rfl, Below.refl _ _⟩
theorem name_empty (k : Int) : (nameE k).toList.isEmpty = !decide (1 ≤ k ∧ k ≤ 3) := by
  rw [btl]
  by_cases h1 : k = 1
  · subst h1; rw [name1]; rfl
  · by_cases h2 : k = 2
    · subst h2; rw [name2]; rfl
    · by_cases h3 : k = 3
      · subst h3; rw [name3]; rfl
      · rw [show nameE k = ⟨#[]⟩ by unfold nameE; rw [if_neg h1, if_neg h2, if_neg h3], decide_eq_false (by omega)]
        rfl
set_option maxRecDepth 100000 in
/-- Push's closure: the kind has a name. -/
theorem known_any (x : EvI) (hx : evOk x) (w : World) : Calls Try.prog 31 #[evV x] w fun e w' => e = .returned (.bool (knownE x)) ∧ Below w.heap.size w w' := by
  have HB := Lib.hid (below_al w (.cells #[.int .i64 x.k, .int .u32 (x.u : Int), .int .u8 (x.f : Int)] 39))
  have NM := Lib.hid (fun W => qname_any x.k hx.1 W)
  have HE := Lib.hid (show (!(nameE x.k).toList.isEmpty) = knownE x by rw [name_empty, Bool.not_not]; rfl)
  generalize nameE x.k = s at *
  unfold evV
  go_enter Try.func31, Try.ntmps31
  go_wp2_with fail
  refine (NM.out _).mono ?_
  rintro e w1 ⟨rfl, h1⟩
  have HF := Lib.hid (below_next HB.out h1)
  clear h1 NM
  go_wp2_with fail
  go_ret
  exact ⟨ret_bool HE.out, HF.out⟩
set_option maxRecDepth 100000 in
/-- Flush's closure: may this event be told? -/
theorem told_any (x : EvI) (b : Nat) (gone : Bool) (w : World) (hc : w.cell? ⟨b, 0, none⟩ = some (.bool gone)) : Calls Try.prog 32 #[evV x, .pointer (some ⟨b, 0, none⟩)] w fun e w' => e = .returned (.bool (gone || decide (x.k ≠ 2))) ∧ Below w.heap.size w w' := by
  have hb : b < w.heap.size := World.block_lt_of_cell? _ _ hc
  have hc2 : (w.alloc (.cells #[.int .i64 x.k, .int .u32 (x.u : Int), .int .u8 (x.f : Int)] 39)).cell? ⟨b, 0, none⟩ = some (.bool gone) := (World.cell?_alloc_lt w _ ⟨b, 0, none⟩ hb).trans hc
  have HB := Lib.hid (below_al w (.cells #[.int .i64 x.k, .int .u32 (x.u : Int), .int .u8 (x.f : Int)] 39))
  unfold evV
  cases gone with
  | true =>
    go_enter Try.func32, Try.ntmps32
    go_wp2_with fail
    go_ret
    exact ⟨rfl, HB.out⟩
  | false =>
    rw [show (false || decide (x.k ≠ 2)) = (x.k != 2) by by_cases e : x.k = 2 <;> simp [e]]
    go_enter Try.func32, Try.ntmps32
    go_wp2_with fail
    go_ret
    exact ⟨rfl, HB.out⟩
theorem eqlKy (x y : Ky) (W : World) : (binOp .eql 59 (.agg #[.int .i64 x.k, .int .u32 (x.u : Int)]) (.agg #[.int .i64 y.k, .int .u32 (y.u : Int)])).run Try.prog W = .ok (.bool (decide (x = y))) W := by
  have u3 := Try.underlying23
  have a3 := Try.isAgg23
  have z3 := Try.sizeOf23
  have u4 := Try.underlying3
  have a4 := Try.isAgg3
  have z4 := Try.sizeOf3
  have hS : Try.prog.underlying 59 = some (.struct (Try.prog.fieldsOf 59)) := by kernel_rfl
  have hp : Try.prog.stoodInHeld 59 = false := by kernel_rfl
  rw [run_eql_struct, show (10000 : Nat) = 9999 + 1 from rfl, run_equalIn_agg W 9999 59 _ _ hS hp]
  simp only [Program.fieldsOf, Try.underlying59]
  have e1 : ((x.u : Int) = (y.u : Int)) = (x.u = y.u) := propext ⟨by omega, by omega⟩
  go_simp
  obtain ⟨a, b⟩ := x
  obtain ⟨c, d⟩ := y
  by_cases h0 : a = c <;> by_cases h1 : b = d <;> simp [h0, h1]
set_option maxRecDepth 100000 in
set_option maxHeartbeats 1000000 in
/-- Has's closure: is it the event that is wanted? -/
theorem wanted_any (x : EvI) (b : Nat) (u : Nat) (w : World) (h0 : w.cell? ⟨b, 0, none⟩ = some (.int .i64 2)) (h1 : w.cell? ⟨b, 1, none⟩ = some (.int .u32 (u : Int))) :
    Calls Try.prog 33 #[evV x, .pointer (some ⟨b, 0, none⟩)] w fun e w' => e = .returned (.bool (decide (x.k = 2 ∧ x.u = u))) ∧ Below w.heap.size w w' := by
  have hb : b < w.heap.size := World.block_lt_of_cell? _ _ h0
  have EQ := fun W => eqlKy (kyE x) ⟨2, u⟩ W
  have HD := Lib.hid (show decide (kyE x = ⟨2, u⟩) = decide (x.k = 2 ∧ x.u = u) by unfold kyE; simp)
  have h2 := heap_alloc_new w (.cells #[.int .i64 x.k, .int .u32 (x.u : Int), .int .u8 (x.f : Int)] 39)
  have hz : (w.alloc (.cells #[.int .i64 x.k, .int .u32 (x.u : Int), .int .u8 (x.f : Int)] 39)).heap.size = w.heap.size + 1 := by simp
  have B1 := Lib.hid (below_al w (.cells #[.int .i64 x.k, .int .u32 (x.u : Int), .int .u8 (x.f : Int)] 39))
  have H2 := Lib.hid h2
  unfold evV
  go_enter Try.func33, Try.ntmps33
  go_upto_region 1 with (fail)
  generalize w.alloc _ = w1 at *
  have HKL := Lib.hid (fun W (hW : Below w1.heap.size w1 W) => (show W.cell? ⟨b, 0, none⟩ = some (.int .i64 2) ∧ W.cell? ⟨b, 1, none⟩ = some (.int .u32 (u : Int)) ∧ W.cell? ⟨w.heap.size, 0, none⟩ = some (.int .i64 x.k) ∧ W.cell? ⟨w.heap.size, 1, none⟩ = some (.int .u32 (x.u : Int)) ∧ W.cell? ⟨w.heap.size, 2, none⟩ = some (.int .u8 (x.f : Int)) ∧ Below w1.heap.size w1 W from by
    have hb2 := (hW.block w.heap.size (by omega)).trans H2.out
    exact ⟨(hW.cell (p := ⟨b, 0, none⟩) (by simp only; omega)).trans ((B1.out.cell (p := ⟨b, 0, none⟩) hb).trans h0), (hW.cell (p := ⟨b, 1, none⟩) (by simp only; omega)).trans ((B1.out.cell (p := ⟨b, 1, none⟩) hb).trans h1), cell_of_row _ _ 0 _ _ _ hb2, cell_of_row _ _ 1 _ _ _ hb2, cell_of_row _ _ 2 _ _ _ hb2, hW⟩))
  have KY := Lib.hid (fun W (hW : Below w1.heap.size w1 W) => (keyOfE_any x W).mono (fun e w' (h : e = .returned (kyE x).v ∧ Below W.heap.size W w') => (⟨h.1, below_next hW h.2⟩ : e = .returned (.agg #[.int .i64 (kyE x).k, .int .u32 ((kyE x).u : Int)]) ∧ Below w1.heap.size w1 w')))
  unfold evV at KY
  generalize kyE x = y at *
  generalize decide (y = ⟨2, u⟩) = r at *
  obtain ⟨k0, k1, k2, k3, k4, k5⟩ := HKL.out _ (Below.refl _ _)
  clear h0 h1 h2 H2 hz
  go_region_held3 (fun W => W.cell? ⟨b, 0, none⟩ = some (.int .i64 2) ∧ W.cell? ⟨b, 1, none⟩ = some (.int .u32 (u : Int)) ∧ W.cell? ⟨w.heap.size, 0, none⟩ = some (.int .i64 x.k) ∧ W.cell? ⟨w.heap.size, 1, none⟩ = some (.int .u32 (x.u : Int)) ∧ W.cell? ⟨w.heap.size, 2, none⟩ = some (.int .u8 (x.f : Int)) ∧ Below w1.heap.size w1 W)
    ((refine HKL.out _ ?_; repeat (first | assumption | exact Below.refl _ _ | refine belowDrawN ?_ _ | refine belowDraw ?_)))
    (first
      | (go_at_call 34; refine (KY.out _ (by repeat (first | assumption | exact Below.refl _ _ | refine belowDrawN ?_ _ | refine belowDraw ?_))).mono ?_; rintro e' w7 ⟨rfl, hb7⟩))
  all_goals
    go_wp2_with fail
    go_ret
    exact ⟨ret_bool HD.out, below_next B1.out hb7⟩
end Go.Proofs.Ytfmloifgngembaa
