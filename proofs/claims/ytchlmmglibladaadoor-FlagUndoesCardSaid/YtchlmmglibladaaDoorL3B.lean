/- The walks of the laws FlagChanges, FlagUndoes. -/
import Derived.Test.YtchlmmglibladaaDoorAlive3
import Derived.Test.YtchlmmglibladaaDoorFlagChange
namespace Go.Proofs.YtchlmmglibladaaDoor
open Go.RowKit

theorem and_lt (a b : Nat) (ha : a < 32) : a &&& b < 32 := Nat.lt_of_le_of_lt Nat.and_le_left ha
theorem changeO_lt {a b : Nat} {m : Int} {x : Nat} (h : changeO a m b = some x) : x < 32 := by
  unfold changeO at h
  split at h
  · cases h
  · split at h
    · injection h with h; omega
    · split at h
      · injection h with h; rw [← h]; exact Nat.or_lt_two_pow (n := 5) (by omega) (by omega)
      · split at h
        · injection h with h; rw [← h]; exact and_lt _ _ (by omega)
        · cases h

set_option maxRecDepth 100000 in
set_option maxHeartbeats 2000000 in
theorem flagChanges_any (a : Nat) (ha : a ≤ 255) (m : Int) (h1 : -9223372036854775808 ≤ m) (h2 : m ≤ 9223372036854775807) (b : Nat) (hb0 : b ≤ 255) (w : World) :
    Calls Tryd.prog 6 #[.int .u8 a, .int .i64 m, .int .u8 b] w fun e w' => e = .returned (.bool true) ∧ Below w.heap.size w w' := by
  have L := Lib.hid (fun w1 => alive3_any w1)
  have P := Lib.hid (fun w1 => fchange_any a b (by omega) (by omega) m h1 h2 w1)
  have R := Lib.hid (fun w1 => refChange_any a b (by omega) (by omega) m w1)
  have hlt : ∀ x, changeO a m b = some x → x < 32 := fun x h => changeO_lt h
  generalize changeO a m b = o at *
  cases o with
  | none =>
    rw [show refO none = -1 from rfl] at R
    rw [show ((none : Option Nat).getD 0 : Nat) = 0 from rfl, show (none : Option Nat).isSome = false from rfl] at P
    clear hlt
    go_enter Tryd.func6, Tryd.ntmps6
    go_wp2_with fail
    refine (P.out _).mono ?_
    rintro e w1 ⟨rfl, hb⟩
    go_wp2_with fail
    refine (R.out _).mono ?_
    rintro e w2 ⟨rfl, rfl⟩
    go_wp2_with fail
    refine (L.out _).mono ?_
    rintro e w3 ⟨rfl, h⟩
    replace hb := below_next hb h
    clear h
    go_wp2_with fail
    go_ret
    exact ⟨rfl, hb⟩
  | some x =>
    have hx := hlt x rfl
    rw [show refO (some x) = (x : Int) from rfl] at R
    rw [show ((some x).getD 0 : Nat) = x from rfl, show (some x).isSome = true from rfl] at P
    clear hlt
    go_enter Tryd.func6, Tryd.ntmps6
    go_wp2_with fail
    refine (P.out _).mono ?_
    rintro e w1 ⟨rfl, hb⟩
    go_wp2_with fail
    refine (R.out _).mono ?_
    rintro e w2 ⟨rfl, rfl⟩
    go_wp2_with fail
    refine (L.out _).mono ?_
    rintro e w3 ⟨rfl, h⟩
    replace hb := below_next hb h
    clear h
    go_wp2_with fail
    go_ret
    exact ⟨rfl, hb⟩

theorem undo1 : ∀ a b : Fin 32, (a.val ||| b.val) ||| b.val = a.val ||| b.val := by decide +kernel
theorem undo2 : ∀ a b : Fin 32, (a.val ||| b.val) &&& (255 - b.val) = a.val &&& (255 - b.val) := by decide +kernel
theorem undo3 : ∀ a b : Fin 32, (a.val &&& (255 - b.val)) &&& (255 - b.val) = a.val &&& (255 - b.val) := by decide +kernel
theorem and31 (a : Nat) : a &&& 31 < 32 := Nat.lt_of_le_of_lt Nat.and_le_right (by decide)

set_option maxRecDepth 100000 in
set_option maxHeartbeats 2000000 in
theorem flagUndoes_any (a0 : Nat) (ha0 : a0 ≤ 255) (b0 : Nat) (hb0 : b0 ≤ 255) (w : World) :
    Calls Tryd.prog 7 #[.int .u8 a0, .int .u8 b0] w fun e w' => e = .returned (.bool true) ∧ Below w.heap.size w w' := by
  have L := Lib.hid (fun w1 => alive3_any w1)
  have e1 : bits BinOp.and IntKind.u8 (a0 : Int) 31 = ((a0 &&& 31 : Nat) : Int) := u8_and_nat a0 31 (by omega) (by omega)
  have e2 : bits BinOp.and IntKind.u8 (b0 : Int) 31 = ((b0 &&& 31 : Nat) : Int) := u8_and_nat b0 31 (by omega) (by omega)
  have ha := and31 a0
  have hb := and31 b0
  generalize a0 &&& 31 = a at *
  generalize b0 &&& 31 = b at *
  have hx : a ||| b < 32 := Nat.or_lt_two_pow (n := 5) ha hb
  have hz : a &&& (255 - b) < 32 := and_lt _ _ ha
  have e3 := u8_andNot_nat a b (by omega) (by omega)
  have P1 := fun w1 => change_1 a b (by omega) (by omega) w1
  have P2 := fun w1 => change_1 (a ||| b) b (by omega) (by omega) w1
  have P3 := fun w1 => change_2 (a ||| b) b (by omega) (by omega) w1
  have P4 := fun w1 => change_2 (a &&& (255 - b)) b (by omega) (by omega) w1
  rw [undo1 ⟨a, ha⟩ ⟨b, hb⟩] at P2
  rw [undo2 ⟨a, ha⟩ ⟨b, hb⟩] at P3
  rw [undo3 ⟨a, ha⟩ ⟨b, hb⟩] at P4
  generalize a ||| b = x at *
  generalize a &&& (255 - b) = z at *
  have P1 := Lib.hid P1
  have P2 := Lib.hid P2
  have P3 := Lib.hid P3
  have P4 := Lib.hid P4
  go_enter Tryd.func7, Tryd.ntmps7
  go_wp2_with fail
  refine (P1.out _).mono ?_
  rintro e w1 ⟨rfl, hB⟩
  go_wp2_with fail
  refine (P2.out _).mono ?_
  rintro e w2 ⟨rfl, h⟩
  replace hB := below_next hB h
  clear h
  go_wp2_with fail
  refine (P3.out _).mono ?_
  rintro e w1 ⟨rfl, h⟩
  replace hB := below_next hB h
  clear h
  go_wp2_with fail
  refine (P4.out _).mono ?_
  rintro e w2 ⟨rfl, h⟩
  replace hB := below_next hB h
  clear h
  go_wp2_with fail
  refine (L.out _).mono ?_
  rintro e w1 ⟨rfl, h⟩
  replace hB := below_next hB h
  clear h
  go_wp2_with fail
  go_ret
  exact ⟨rfl, hB⟩
end Go.Proofs.YtchlmmglibladaaDoor
