/- The example of the chapter, in law10. -/
import Derived.Test.YtpoejnajnaolpaaGreatDoorRpAl
import Derived.Lib.SlBytesConst
namespace Go.Proofs.YtpoejnajnaolpaaGreatDoor
open Go.RowKit

/-- Bytes laid by a literal. -/
theorem byAt_litT (w : World) (l : List UInt8) (C : Array Value) (hC : (l.map fun x => Value.int .u8 (x.toNat : Int)).toArray = C) (t : TypeId) (fr : Nat × Nat) : ByAt (w.heap.size + 1) (w.alloc (.cells C t fr)) (some ⟨w.heap.size, 0, none⟩) l.length l := by
  subst hC
  refine ⟨Nat.le_refl _, .inr ⟨w.heap.size, 0, rfl, by omega, by simp, fun j hj => ?_⟩⟩
  rw [Nat.zero_add, World.cell?_alloc_mark]
  simp [hj]
def ex10 : List UInt8 := [42, 32, 51, 32, 69, 88, 73, 83, 84, 83, 13, 10, 97, 32, 79, 75, 32, 120, 13, 10, 98]
theorem ex_b : ∀ r, ¬ RpAt [98] r := run_at.2 (Option.isNone_iff_eq_none.1 (by decide +kernel))
theorem ex_rps : Rps ex10 [⟨1, 3, [], 0, [], 0, 0, 0, 0, []⟩, ⟨9, 0, [97], 0, [120], 0, 0, 0, 0, []⟩] [98] :=
  .next (t := [97, 32, 79, 75, 32, 120, 13, 10, 98]) (hi_ok (by omega) (by omega) (by omega)) (by decide +kernel) (by decide +kernel) (.next (t := [98]) (hi_ok (by omega) (by omega) (by omega)) (by decide +kernel) (by decide +kernel) (.stop ex_b))

theorem two_of {xs : List RX} {a b : RI} (h : xs.map (fun x : RX => x.r) = [a, b]) : ∃ x y : RX, xs = [x, y] ∧ x.r = a ∧ y.r = b := by
  cases xs with
  | nil => cases h
  | cons x xs =>
    cases xs with
    | nil => simp at h
    | cons y xs =>
      cases xs with
      | nil =>
        simp only [List.map_cons, List.map_nil, List.cons.injEq, and_true] at h
        exact ⟨x, y, rfl, h.1, h.2⟩
      | cons z xs => simp at h

set_option maxRecDepth 100000 in
set_option maxHeartbeats 4000000 in
theorem alive10_any (w : World) (henv : Env w) :
    Calls Tryz.prog 9 #[] w fun e w' => e = .returned (.bool true) ∧ Below w.heap.size w w' := by
  have kc := fun (w : World) (C : Array Value) (n c : Nat) => Lib.run_convert_bytes_const (P := Tryz.prog) w 22 5 C n c Tryz.underlying22 Tryz.underlying5
  have B0 := below_al w (.cells #[.int .u8 42, .int .u8 32, .int .u8 51, .int .u8 32, .int .u8 69, .int .u8 88, .int .u8 73, .int .u8 83, .int .u8 84, .int .u8 83, .int .u8 13, .int .u8 10, .int .u8 97, .int .u8 32, .int .u8 79, .int .u8 75, .int .u8 32, .int .u8 120, .int .u8 13, .int .u8 10, .int .u8 98] 5 (21, 22))
  have AL : Calls Tryz.prog 13 #[.slice (some ⟨w.heap.size, 0, none⟩) 21 21] _ _ := pall10_any _ 21 21 _ ex10 rfl (by decide) _ (henv.below B0) (byAt_litT w ex10 _ rfl 5 (21, 22))
  have AL := Lib.hid AL
  have HB0 := Lib.hid B0
  clear henv B0
  go_enter Tryz.func9, Tryz.ntmps9
  go_wp2_with fail
  refine AL.out.mono ?_
  rintro e w1 ⟨xs, A, c, u, m, hr, hm, rfl, hS, hb⟩
  obtain ⟨e1, rfl⟩ := hr.det ex_rps
  obtain rfl : m = 20 := by
    have h1 : ex10.length = 21 := rfl
    have h2 : ([98] : List UInt8).length = 1 := rfl
    omega
  obtain ⟨x, y, rfl, hx, hy⟩ : ∃ x y : RX, xs = [x, y] ∧ x.r = ⟨1, 3, [], 0, [], 0, 0, 0, 0, []⟩ ∧ y.r = ⟨9, 0, [97], 0, [120], 0, 0, 0, 0, []⟩ := by
    exact two_of e1
  obtain ⟨b, off, rfl, hlt, -, c1, -⟩ := hS.at (j := 0) (by simp)
  obtain ⟨b', off', hA', -, -, -, c2, -⟩ := hS.at (j := 1) (by simp)
  obtain ⟨rfl, rfl⟩ : b = b' ∧ off = off' := by injection hA' with h; injection h with h1 h2; exact ⟨h1, h2⟩
  have d1 : w1.cell? ⟨b, off + 1, none⟩ = some (.int .u32 3) := by
    have := c1
    rw [show ([x, y] : List RX)[0].r = ⟨1, 3, [], 0, [], 0, 0, 0, 0, []⟩ from hx] at this
    simpa using this
  have d2 : w1.cell? ⟨b, off + 12, none⟩ = some (.string ⟨#[97]⟩) := by
    have := c2
    rw [show ([x, y] : List RX)[1].r = ⟨9, 0, [97], 0, [120], 0, 0, 0, 0, []⟩ from hy] at this
    simpa [Nat.add_assoc] using this
  have HB1 := Lib.hid (below_next HB0.out hb)
  clear hr hm hS hb AL HB0 c1 c2 hA' hx hy e1
  simp only [List.length_cons, List.length_nil, Nat.zero_add, Nat.reduceAdd]
  go_wp2_with fail
  go_ret
  exact ⟨rfl, HB1.out⟩
end Go.Proofs.YtpoejnajnaolpaaGreatDoor
