/- A call of layer 13, in its five cells; few. -/
import Derived.Test.YtcfpdflaabfdkaaGa
import Derived.WalkKit
namespace Go.Proofs.Ytcfpdflaabfdkaa
open Go.RowKit

/-- A message's fields are of their types. -/
structure MIok (m : MI) : Prop where
  u : m.u ≤ 4294967295
  f : m.f ≤ 255
  l : m.b.length ≤ maxLen
/-- A call: its kind, its message, its mode. -/
structure OI where
  kind : Int
  m : MI
  mode : Int
def encP (o : OI) : List Value := [.int .i64 o.kind, .int .u32 (o.m.u : Int), .int .u8 (o.m.f : Int), .slice o.m.A o.m.b.length o.m.k, .int .i64 o.mode]
theorem encP_len (o : OI) : (encP o).length = 5 := rfl
theorem SlAt.op13 {w : World} {A : Option Addr} {l : List OI} (h : SlAt encP 5 w A l) {j : Nat} (hj : j < l.length) :
    ∃ b off, A = some ⟨b, off, none⟩ ∧ b < w.heap.size ∧ w.cell? ⟨b, off + j * 5, none⟩ = some (.int .i64 l[j].kind) ∧ w.cell? ⟨b, off + j * 5 + 1, none⟩ = some (.int .u32 (l[j].m.u : Int)) ∧ w.cell? ⟨b, off + j * 5 + 2, none⟩ = some (.int .u8 (l[j].m.f : Int)) ∧ w.cell? ⟨b, off + j * 5 + 3, none⟩ = some (.slice l[j].m.A l[j].m.b.length l[j].m.k) ∧ w.cell? ⟨b, off + j * 5 + 4, none⟩ = some (.int .i64 l[j].mode) := by
  obtain ⟨b, off, hA, hb, hc⟩ := h.at_ hj
  exact ⟨b, off, hA, hb, by simpa using hc 0 _ rfl, hc 1 _ rfl, hc 2 _ rfl, hc 3 _ rfl, hc 4 _ rfl⟩
def fewO (l : List OI) : Bool := (l.all fun o => decide (o.m.b.length ≤ 300)) && decide (l.length ≤ 60)
theorem all_snoc13 {p : OI → Bool} {xs : List OI} {k : Nat} (h : k < xs.length) (ha : (xs.take k).all p = true) (hk : p xs[k] = true) : (xs.take (k + 1)).all p = true := by
  rw [List.take_succ_eq_append_getElem h, List.all_append, ha, List.all_cons, hk]
  rfl

set_option maxRecDepth 100000 in
set_option maxHeartbeats 1000000 in
theorem few13_any (l : List OI) (A : Option Addr) (c : Nat) (hl : l.length ≤ maxLen) (w : World) (hS : SlAt encP 5 w A l) :
    Calls Try.prog 9 #[.slice A l.length c] w fun e w' => e = .returned (.bool (fewO l)) ∧ Below w.heap.size w w' := by
  unfold maxLen at hl
  have HS := Lib.hid hS
  clear hS
  go_enter Try.func9, Try.ntmps9
  go_wp2_with fail
  go_loopw [7] (fun i wr => ∃ k : Nat, k ≤ l.length ∧ i = .int .i64 (k : Int) ∧ Hid ((l.take k).all (fun o => decide (o.m.b.length ≤ 300)) = true) ∧ Hid (Below w.heap.size w wr)) (fun i _ => l.length - (intOf i).toNat)
  case atStart => exact ⟨0, Nat.zero_le _, rfl, Lib.hid rfl, Lib.hid (Below.refl _ _)⟩
  case round =>
    obtain ⟨k, hk, rfl, hA, hB⟩ := hrel
    by_cases hlt : k < l.length
    · obtain ⟨b, off, rfl, hb, c0, c1, c2, c3, c4⟩ := (HS.out.below hB.out).op13 hlt
      have hk0 : (0 : Int) ≤ (k : Int) := by omega
      have hk1 : (k : Int) < (l.length : Int) := by omega
      have HBB := Lib.hid (fun (W : World) (h : Below wr.heap.size wr W) => below_next hB.out h)
      by_cases h3 : l[k].m.b.length ≤ 300
      · have HSN := Lib.hid (all_snoc13 (p := fun o => decide (o.m.b.length ≤ 300)) hlt hA.out (by simpa using h3))
        have h3i : ¬ (300 : Int) < (l[k].m.b.length : Int) := by omega
        clear h3
        generalize l[k].m.b.length = n at *
        generalize l[k] = o at *
        go_wp2_with fail
        go_roundw
        case rel => exact ⟨k + 1, by omega, by go_num, HSN, HBB.out _ (by repeat (first | assumption | exact Below.refl _ _ | refine Below.setCell ?_ (by simp) _ | refine Below.alloc ?_ (by simp) _))⟩
        case measure => simp [intOf]; omega
      · have HF := Lib.hid (show fewO l = false by
          unfold fewO
          rw [Bool.and_eq_false_iff]
          left
          rw [List.all_eq_false]
          exact ⟨l[k], List.getElem_mem hlt, by simpa using h3⟩)
        have h3i : (300 : Int) < (l[k].m.b.length : Int) := by omega
        clear h3
        generalize l[k].m.b.length = n at *
        generalize l[k] = o at *
        go_wp2_with fail
        go_ret
        exact ⟨by rw [HF.out]; rfl, HBB.out _ (by repeat (first | assumption | exact Below.refl _ _ | refine Below.setCell ?_ (by simp) _ | refine Below.alloc ?_ (by simp) _))⟩
    · obtain rfl : k = l.length := by omega
      rw [List.take_length] at hA
      by_cases h6 : l.length ≤ 60
      · have HF := Lib.hid (show fewO l = true by unfold fewO; rw [hA.out]; simpa using h6)
        have h6i : (l.length : Int) ≤ 60 := by omega
        go_wp2_with fail
        go_ret
        exact ⟨by rw [HF.out]; rfl, hB.out⟩
      · have HF := Lib.hid (show fewO l = false by unfold fewO; rw [Bool.and_eq_false_iff]; right; simpa using h6)
        have h6i : ¬ (l.length : Int) ≤ 60 := by omega
        go_wp2_with fail
        go_ret
        exact ⟨by rw [HF.out]; rfl, hB.out⟩
end Go.Proofs.Ytcfpdflaabfdkaa
