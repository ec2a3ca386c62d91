/- A call of layer 16, in its six cells; few. -/
import Derived.Test.YthdbbappojkmoaaGreatHc
import Derived.Test.YthdbbappojkmoaaGreatHa
import Derived.WalkKit
namespace Go.Proofs.YthdbbappojkmoaaGreat
open Go.RowKit

/-- A call: its kind, its session, its message, its mode, its flags, its body. -/
structure O16 where
  kind : Int
  id : Int
  u : Nat
  mode : Int
  f : Nat
  A : Option Addr
  c : Nat
  b : List UInt8
instance : Inhabited O16 := ⟨⟨0, 0, 0, 0, 0, none, 0, []⟩⟩
structure O16ok (o : O16) : Prop where
  kind : -9223372036854775808 ≤ o.kind ∧ o.kind ≤ 9223372036854775807
  id : -9223372036854775808 ≤ o.id ∧ o.id ≤ 9223372036854775807
  u : o.u ≤ 4294967295
  mode : -9223372036854775808 ≤ o.mode ∧ o.mode ≤ 9223372036854775807
  f : o.f ≤ 255
  l : o.b.length ≤ maxLen
def enc16 (o : O16) : List Value := [.int .i64 o.kind, .int .i64 o.id, .int .u32 (o.u : Int), .int .i64 o.mode, .int .u8 (o.f : Int), .slice o.A o.b.length o.c]
theorem enc16_len (o : O16) : (enc16 o).length = 6 := rfl
theorem SlAt.op16 {w : World} {A : Option Addr} {l : List O16} (h : SlAt enc16 6 w A l) {j : Nat} (hj : j < l.length) :
    ∃ b off, A = some ⟨b, off, none⟩ ∧ b < w.heap.size ∧ w.cell? ⟨b, off + j * 6, none⟩ = some (.int .i64 l[j].kind) ∧ w.cell? ⟨b, off + j * 6 + 1, none⟩ = some (.int .i64 l[j].id) ∧ w.cell? ⟨b, off + j * 6 + 2, none⟩ = some (.int .u32 (l[j].u : Int)) ∧ w.cell? ⟨b, off + j * 6 + 3, none⟩ = some (.int .i64 l[j].mode) ∧ w.cell? ⟨b, off + j * 6 + 4, none⟩ = some (.int .u8 (l[j].f : Int)) ∧ w.cell? ⟨b, off + j * 6 + 5, none⟩ = some (.slice l[j].A l[j].b.length l[j].c) := by
  obtain ⟨b, off, hA, hb, hc⟩ := h.at_ hj
  exact ⟨b, off, hA, hb, by simpa using hc 0 _ rfl, hc 1 _ rfl, hc 2 _ rfl, hc 3 _ rfl, hc 4 _ rfl, hc 5 _ rfl⟩
def few16 (l : List O16) : Bool := (l.all fun o => decide (o.b.length ≤ 200)) && decide (l.length ≤ 60)
theorem all_snoc16 {p : O16 → Bool} {xs : List O16} {k : Nat} (h : k < xs.length) (ha : (xs.take k).all p = true) (hk : p xs[k] = true) : (xs.take (k + 1)).all p = true := by
  rw [List.take_succ_eq_append_getElem h, List.all_append, ha, List.all_cons, hk]
  rfl

set_option maxRecDepth 100000 in
set_option maxHeartbeats 1000000 in
theorem few16_any (l : List O16) (A : Option Addr) (c : Nat) (hl : l.length ≤ maxLen) (w : World) (hS : SlAt enc16 6 w A l) :
    Calls Tryz.prog 6 #[.slice A l.length c] w fun e w' => e = .returned (.int .i64 (if few16 l = true then 1 else 0)) ∧ Below w.heap.size w w' := by
  unfold maxLen at hl
  obtain ⟨r, hr⟩ : ∃ r : Int, (if few16 l = true then (1 : Int) else 0) = r := ⟨_, rfl⟩
  rw [hr]
  have HR := Lib.hid hr
  have HS := Lib.hid hS
  clear hS hr
  go_enter Tryz.func6, Tryz.ntmps6
  go_wp2_with fail
  go_loopw [7] (fun i wr => ∃ k : Nat, k ≤ l.length ∧ i = .int .i64 (k : Int) ∧ Hid ((l.take k).all (fun o => decide (o.b.length ≤ 200)) = true) ∧ Hid (Below w.heap.size w wr)) (fun i _ => l.length - (intOf i).toNat)
  case atStart => exact ⟨0, Nat.zero_le _, rfl, Lib.hid rfl, Lib.hid (Below.refl _ _)⟩
  case round =>
    obtain ⟨k, hk, rfl, hA, hB⟩ := hrel
    by_cases hlt : k < l.length
    · obtain ⟨b, off, rfl, hb, c0, c1, c2, c3, c4, c5⟩ := (HS.out.below hB.out).op16 hlt
      have hk0 : (0 : Int) ≤ (k : Int) := by omega
      have hk1 : (k : Int) < (l.length : Int) := by omega
      have HBB := Lib.hid (fun (W : World) (h : Below wr.heap.size wr W) => below_next hB.out h)
      by_cases h3 : l[k].b.length ≤ 200
      · have HSN := Lib.hid (all_snoc16 (p := fun o => decide (o.b.length ≤ 200)) hlt hA.out (by simpa using h3))
        have h3i : ¬ (200 : Int) < (l[k].b.length : Int) := by omega
        clear h3
        generalize l[k].b.length = n at *
        generalize l[k] = o at *
        go_wp2_with fail
        go_roundw
        case rel => exact ⟨k + 1, by omega, by go_num, HSN, HBB.out _ (by repeat (first | assumption | exact Below.refl _ _ | refine Below.setCell ?_ (by simp) _ | refine Below.alloc ?_ (by simp) _))⟩
        case measure => simp [intOf]; omega
      · have HF := Lib.hid (show few16 l = false by
          unfold few16
          rw [Bool.and_eq_false_iff]
          left
          rw [List.all_eq_false]
          exact ⟨l[k], List.getElem_mem hlt, by simpa using h3⟩)
        have h3i : (200 : Int) < (l[k].b.length : Int) := by omega
        clear h3
        generalize l[k].b.length = n at *
        generalize l[k] = o at *
        go_wp2_with fail
        go_ret
        exact ⟨by rw [← HR.out, HF.out]; rfl, HBB.out _ (by repeat (first | assumption | exact Below.refl _ _ | refine Below.setCell ?_ (by simp) _ | refine Below.alloc ?_ (by simp) _))⟩
    · obtain rfl : k = l.length := by omega
      rw [List.take_length] at hA
      by_cases h6 : l.length ≤ 60
      · have HF := Lib.hid (show few16 l = true by unfold few16; rw [hA.out]; simpa using h6)
        have h6i : ¬ (60 : Int) < (l.length : Int) := by omega
        go_wp2_with fail
        go_ret
        exact ⟨by rw [← HR.out, HF.out]; rfl, hB.out⟩
      · have HF := Lib.hid (show few16 l = false by unfold few16; rw [Bool.and_eq_false_iff]; right; simpa using h6)
        have h6i : (60 : Int) < (l.length : Int) := by omega
        go_wp2_with fail
        go_ret
        exact ⟨by rw [← HR.out, HF.out]; rfl, hB.out⟩
end Go.Proofs.YthdbbappojkmoaaGreat
