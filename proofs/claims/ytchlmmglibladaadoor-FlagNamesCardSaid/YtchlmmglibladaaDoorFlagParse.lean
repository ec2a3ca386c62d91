/- flag: Parse. -/
import Derived.Test.YtchlmmglibladaaDoorFlagFlags
import Derived.Test.YtchlmmglibladaaDoorFlagCut
import Derived.Test.YtchlmmglibladaaDoorFlagList
import Derived.Test.YtchlmmglibladaaDoorSplit
import Derived.Shelf.Small.Wraps
import Derived.Maps.OwnIn
import Derived.Stop.RegionWithIn
namespace Go.Proofs.YtchlmmglibladaaDoor
open Go.RowKit Go.Maps Go.Shelf
attribute [local go_sem] Oper.semAt_some

/-- A name is looked for. -/
theorem look_flag {w : World} {b : Nat} {D : DataW Unit} (hown : w.ownsMap Tryd.prog 9 (plainElem Tryd.prog 22) b 5 D) (hD : FlagsD D) (u : List UInt8) (hu : u.length ≤ 1000000000) :
    (Instr.lookup 42 (.map (some b)) (.string ⟨u.toArray⟩) true).run Tryd.prog w = .ok (.tuple #[.int .u8 (flagU u : Nat), .bool (decide (flagU u ≠ 0))]) w := by
  obtain ⟨v, ps, hrun, hv⟩ := hown.look_ok keyS Tryd.underlying42 (zeroF w) (plainElem_int (H := Unit) Tryd.underlying22 (a := 0) (by decide)) (kS u hu)
  obtain ⟨c, rfl, hc, _⟩ := plainElem_int_inv Tryd.underlying22 hv
  simp only [Prod.mk.injEq] at hc
  rw [hrun, hD.has, hD.at hc.1]

theorem mk_size (l : List UInt8) : (ByteArray.mk l.toArray).size = l.length := by show l.toArray.size = _; simp
theorem len_size (s : ByteArray) : s.data.toList.length = s.size := by rw [Array.length_toList]; rfl

set_option maxRecDepth 100000 in
set_option maxHeartbeats 1000000 in
theorem parse_no (s : ByteArray) (hs : s.size ≤ 100000000) (w : World) (hn : hasA s.data.toList = false ∨ hasB s.data.toList = false) :
    Calls Tryd.prog 13 #[.string s] w fun e w' => e = .returned (.tuple #[.int .u8 0, .bool false]) ∧ Below w.heap.size w w' := by
  have hcl := cutA_len s.data.toList
  have C1 := Lib.hid (fun w1 => Any.strings_CutPrefix Tryd.lays103 s ⟨#[40]⟩ w1)
  have C2 := Lib.hid (fun w1 => Any.strings_CutSuffix Tryd.lays104 ⟨(cutA s.data.toList).toArray⟩ ⟨#[41]⟩ w1 (by rw [mk_size]; have := len_size s; omega))
  have E1 : Lib.trimPrefix s.data.toList (ByteArray.mk #[40]).data.toList = cutA s.data.toList := rfl
  have E2 : Lib.hasPrefix s.data.toList (ByteArray.mk #[40]).data.toList = hasA s.data.toList := rfl
  have E3 : Lib.trimSuffix (ByteArray.mk (cutA s.data.toList).toArray).data.toList (ByteArray.mk #[41]).data.toList = cutB s.data.toList := rfl
  have E4 : Lib.hasSuffix (ByteArray.mk (cutA s.data.toList).toArray).data.toList (ByteArray.mk #[41]).data.toList = hasB s.data.toList := rfl
  rw [E1, E2] at C1
  rw [E3, E4] at C2
  clear E1 E2 E3 E4 hcl
  generalize hasA s.data.toList = a at *
  generalize hasB s.data.toList = b at *
  generalize cutA s.data.toList = l1 at *
  generalize cutB s.data.toList = l2 at *
  cases a
  case false =>
    clear hn
    go_enter Tryd.func13, Tryd.ntmps13
    go_wp2_with fail
    refine (C1.out _).mono ?_
    rintro e w1 ⟨rfl, rfl⟩
    go_wp2_with fail
    refine (C2.out _).mono ?_
    rintro e w1 ⟨rfl, rfl⟩
    go_wp2_with fail
    exact bodyPost_ret (v := .tuple #[.int .u8 0, .bool false]) (by simp [results, Tryd.f13, go_sem]) rfl ⟨rfl, by repeat (first | exact Below.refl _ _ | refine Below.alloc ?_ (by simp <;> omega) _ | refine Below.setCell ?_ (by simp <;> omega) _)⟩
  case true =>
    obtain rfl : b = false := by simpa using hn
    clear hn
    go_enter Tryd.func13, Tryd.ntmps13
    go_wp2_with fail
    refine (C1.out _).mono ?_
    rintro e w1 ⟨rfl, rfl⟩
    go_wp2_with fail
    refine (C2.out _).mono ?_
    rintro e w1 ⟨rfl, rfl⟩
    go_wp2_with fail
    exact bodyPost_ret (v := .tuple #[.int .u8 0, .bool false]) (by simp [results, Tryd.f13, go_sem]) rfl ⟨rfl, by repeat (first | exact Below.refl _ _ | refine Below.alloc ?_ (by simp <;> omega) _ | refine Below.setCell ?_ (by simp <;> omega) _)⟩

set_option maxRecDepth 100000 in
set_option maxHeartbeats 1000000 in
theorem parse_empty (s : ByteArray) (hs : s.size ≤ 100000000) (w : World) (hA : hasA s.data.toList = true) (hB : hasB s.data.toList = true) (hE : cutB s.data.toList = []) :
    Calls Tryd.prog 13 #[.string s] w fun e w' => e = .returned (.tuple #[.int .u8 0, .bool true]) ∧ Below w.heap.size w w' := by
  have hcl := cutA_len s.data.toList
  have C1 := Lib.hid (fun w1 => Any.strings_CutPrefix Tryd.lays103 s ⟨#[40]⟩ w1)
  have C2 := Lib.hid (fun w1 => Any.strings_CutSuffix Tryd.lays104 ⟨(cutA s.data.toList).toArray⟩ ⟨#[41]⟩ w1 (by rw [mk_size]; have := len_size s; omega))
  have E1 : Lib.trimPrefix s.data.toList (ByteArray.mk #[40]).data.toList = cutA s.data.toList := rfl
  have E2 : Lib.hasPrefix s.data.toList (ByteArray.mk #[40]).data.toList = hasA s.data.toList := rfl
  have E3 : Lib.trimSuffix (ByteArray.mk (cutA s.data.toList).toArray).data.toList (ByteArray.mk #[41]).data.toList = cutB s.data.toList := rfl
  have E4 : Lib.hasSuffix (ByteArray.mk (cutA s.data.toList).toArray).data.toList (ByteArray.mk #[41]).data.toList = hasB s.data.toList := rfl
  rw [E1, E2, hA] at C1
  rw [E3, E4, hB, hE] at C2
  clear E1 E2 E3 E4 hcl hA hB hE
  generalize cutA s.data.toList = l1 at *
  go_enter Tryd.func13, Tryd.ntmps13
  go_wp2_with fail
  refine (C1.out _).mono ?_
  rintro e w1 ⟨rfl, rfl⟩
  go_wp2_with fail
  refine (C2.out _).mono ?_
  rintro e w1 ⟨rfl, rfl⟩
  go_wp2_with fail
  exact bodyPost_ret (v := .tuple #[.int .u8 0, .bool true]) (by simp [results, Tryd.f13, go_sem]) rfl ⟨rfl, by repeat (first | exact Below.refl _ _ | refine Below.alloc ?_ (by simp <;> omega) _ | refine Below.setCell ?_ (by simp <;> omega) _)⟩
end Go.Proofs.YtchlmmglibladaaDoor
