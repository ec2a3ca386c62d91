/- flag: Each: the single flags of a set, in ascending order. -/
import Derived.Test.YtchlmmglibladaaDoorFlagChMath
import Derived.Test.YtchlmmglibladaaDoorShelf
import Derived.Test.YtchlmmglibladaaDoorAppend
import Derived.Test.YtchlmmglibladaaDoorKeeps
import Derived.Shelf.Small.Bits
import Derived.Lib.Hide
namespace Go.Proofs.YtchlmmglibladaaDoor
open Go.RowKit Go.Maps Go.Shelf

theorem infoF : (Tryd.prog.info? 22).map (fun i => (i.zero, i.size, i.bytes)) = some (some (.int .u8 0), 1, 1) := by kernel_rfl
/-- A flag's cells. -/
def encF (f : Nat) : List Value := [.int .u8 (f : Int)]
/-- The single flags below the k-th. -/
def eachK (f k : Nat) : List Nat := (ones.take k).filter fun o => f &&& o != 0
theorem eachK_len (f k : Nat) : (eachK f k).length ≤ 5 := Nat.le_trans (List.length_filter_le _ _) (by rw [List.length_take]; simp [ones]; omega)
theorem eachK_all (f : Nat) : eachK f 5 = eachL f := rfl
theorem eachK_yes {f k o : Nat} (ho : ones[k]? = some o) (h : f &&& o ≠ 0) : eachK f (k + 1) = eachK f k ++ [o] := by
  unfold eachK
  rw [List.take_add_one, ho, List.filter_append]
  simp [h]
theorem eachK_no {f k o : Nat} (ho : ones[k]? = some o) (h : f &&& o = 0) : eachK f (k + 1) = eachK f k := by
  unfold eachK
  rw [List.take_add_one, ho, List.filter_append]
  simp [h]

theorem bit_no {f o : Nat} (hf : f < 256) (ho : o < 256) (h : f &&& o = 0) : (bits BinOp.and IntKind.u8 (f : Int) (o : Int) != 0) = false := by
  rw [u8_and_nat f o hf ho, h]; rfl
theorem bit_yes {f o : Nat} (hf : f < 256) (ho : o < 256) (h : f &&& o ≠ 0) : (bits BinOp.and IntKind.u8 (f : Int) (o : Int) != 0) = true := by
  rw [u8_and_nat f o hf ho]
  simp only [bne_iff_ne, ne_eq, Int.natCast_eq_zero]
  exact h

set_option maxRecDepth 100000 in
set_option maxHeartbeats 1000000 in
theorem each_any (f : Nat) (hf : f < 256) (w : World) :
    Calls Tryd.prog 9 #[.int .u8 f] w fun e w' => ∃ v, e = .returned v ∧ w'.ownsRow w.heap.size 22 1 v (eachL f).length (flatL encF (eachL f)) ∧ Below w.heap.size w w' := by
  obtain ⟨i0, hi, hz0, hz1, hz2⟩ := info_parts infoF
  have L8 := Lib.hid (Any.bits_Len8 Tryd.lays126 31 w (by decide) (by decide))
  rw [show Lib.bitLen (31 : Int).toNat = 5 by decide] at L8
  go_enter Tryd.func9, Tryd.ntmps9
  go_wp2_with fail
  refine L8.out.mono ?_
  rintro e w1 ⟨rfl, rfl⟩
  go_wp2_with fail
  go_loopw [3, 7] (fun v i wr => ∃ k : Nat, k ≤ 5 ∧ i = .int .i64 k ∧ wr.ownsRow w1.heap.size 22 1 v (eachK f k).length (flatL encF (eachK f k)) ∧ Below w1.heap.size w1 wr) (fun _ i _ => 5 - (intOf i).toNat)
  case atStart => exact ⟨0, by omega, rfl, World.ownsRow_nil _ _ _ _, Below.refl _ _⟩
  case round =>
    obtain ⟨k, hk, rfl, hown, hb⟩ := hrel
    by_cases hlt : k < 5
    · have hk5 : k = 0 ∨ k = 1 ∨ k = 2 ∨ k = 3 ∨ k = 4 := by omega
      have hl := eachK_len f k
      clear hk hlt
      rcases hk5 with rfl | rfl | rfl | rfl | rfl
      · by_cases ht : f &&& 1 = 0
        · have hb1 : (bits BinOp.and IntKind.u8 (f : Int) 1 != 0) = false := bit_no (f := f) (o := 1) (by omega) (by decide) ht
          have HE := Lib.hid (eachK_no (k := 0) (o := 1) rfl ht)
          generalize eachK f 0 = Q at *
          have HO := Lib.hid hown
          clear hown ht
          go_wp2_with fail
          go_roundw
          case rel => exact ⟨1, by omega, rfl, by rw [HE.out]; exact HO.out, hb⟩
          case measure => simp [intOf]
        · have hb1 : (bits BinOp.and IntKind.u8 (f : Int) 1 != 0) = true := bit_yes (f := f) (o := 1) (by omega) (by decide) ht
          have HE := Lib.hid (eachK_yes (k := 0) (o := 1) rfl ht)
          generalize eachK f 0 = Q at *
          have hs1 := hb.size
          obtain ⟨A', c', rfl⟩ := own_any hown
          clear ht
          go_wp2_with (at_builtin; refine wpList_append_own _ rfl _ _ 23 rfl w1.heap.size 22 i0 _ 1 1 Tryd.underlying23 hi hz0 hz1 hz2 rfl (by decide) _ _ _ rfl (hown.alloc _) ⟨wr.heap.size, 0, none⟩ 1 1 [.int .u8 (1 : Int)] rfl rfl (cell_one_new _ _ _) (ints_oneCell .u8 [1]) (by unfold maxLen; omega) (by omega) (by simp; omega) ?_; intro v' w8 hown' hgrow _)
          have hbz := (hb.alloc hs1 (.cells #[.int .u8 1] 22)).grown hgrow (by simp; omega) (fun k hk => (hown.lt k hk).1)
          have HN := Lib.hid hown'
          clear hown' hgrow hown
          go_wp2
          go_roundw
          case rel => exact ⟨1, by omega, rfl, by rw [HE.out]; simpa [flatL, encF] using HN.out, hbz⟩
          case measure => simp [intOf]
      · by_cases ht : f &&& 2 = 0
        · have hb1 : (bits BinOp.and IntKind.u8 (f : Int) 2 != 0) = false := bit_no (f := f) (o := 2) (by omega) (by decide) ht
          have HE := Lib.hid (eachK_no (k := 1) (o := 2) rfl ht)
          generalize eachK f 1 = Q at *
          have HO := Lib.hid hown
          clear hown ht
          go_wp2_with fail
          go_roundw
          case rel => exact ⟨2, by omega, rfl, by rw [HE.out]; exact HO.out, hb⟩
          case measure => simp [intOf]
        · have hb1 : (bits BinOp.and IntKind.u8 (f : Int) 2 != 0) = true := bit_yes (f := f) (o := 2) (by omega) (by decide) ht
          have HE := Lib.hid (eachK_yes (k := 1) (o := 2) rfl ht)
          generalize eachK f 1 = Q at *
          have hs1 := hb.size
          obtain ⟨A', c', rfl⟩ := own_any hown
          clear ht
          go_wp2_with (at_builtin; refine wpList_append_own _ rfl _ _ 23 rfl w1.heap.size 22 i0 _ 1 1 Tryd.underlying23 hi hz0 hz1 hz2 rfl (by decide) _ _ _ rfl (hown.alloc _) ⟨wr.heap.size, 0, none⟩ 1 1 [.int .u8 (2 : Int)] rfl rfl (cell_one_new _ _ _) (ints_oneCell .u8 [2]) (by unfold maxLen; omega) (by omega) (by simp; omega) ?_; intro v' w8 hown' hgrow _)
          have hbz := (hb.alloc hs1 (.cells #[.int .u8 2] 22)).grown hgrow (by simp; omega) (fun k hk => (hown.lt k hk).1)
          have HN := Lib.hid hown'
          clear hown' hgrow hown
          go_wp2
          go_roundw
          case rel => exact ⟨2, by omega, rfl, by rw [HE.out]; simpa [flatL, encF] using HN.out, hbz⟩
          case measure => simp [intOf]
      · by_cases ht : f &&& 4 = 0
        · have hb1 : (bits BinOp.and IntKind.u8 (f : Int) 4 != 0) = false := bit_no (f := f) (o := 4) (by omega) (by decide) ht
          have HE := Lib.hid (eachK_no (k := 2) (o := 4) rfl ht)
          generalize eachK f 2 = Q at *
          have HO := Lib.hid hown
          clear hown ht
          go_wp2_with fail
          go_roundw
          case rel => exact ⟨3, by omega, rfl, by rw [HE.out]; exact HO.out, hb⟩
          case measure => simp [intOf]
        · have hb1 : (bits BinOp.and IntKind.u8 (f : Int) 4 != 0) = true := bit_yes (f := f) (o := 4) (by omega) (by decide) ht
          have HE := Lib.hid (eachK_yes (k := 2) (o := 4) rfl ht)
          generalize eachK f 2 = Q at *
          have hs1 := hb.size
          obtain ⟨A', c', rfl⟩ := own_any hown
          clear ht
          go_wp2_with (at_builtin; refine wpList_append_own _ rfl _ _ 23 rfl w1.heap.size 22 i0 _ 1 1 Tryd.underlying23 hi hz0 hz1 hz2 rfl (by decide) _ _ _ rfl (hown.alloc _) ⟨wr.heap.size, 0, none⟩ 1 1 [.int .u8 (4 : Int)] rfl rfl (cell_one_new _ _ _) (ints_oneCell .u8 [4]) (by unfold maxLen; omega) (by omega) (by simp; omega) ?_; intro v' w8 hown' hgrow _)
          have hbz := (hb.alloc hs1 (.cells #[.int .u8 4] 22)).grown hgrow (by simp; omega) (fun k hk => (hown.lt k hk).1)
          have HN := Lib.hid hown'
          clear hown' hgrow hown
          go_wp2
          go_roundw
          case rel => exact ⟨3, by omega, rfl, by rw [HE.out]; simpa [flatL, encF] using HN.out, hbz⟩
          case measure => simp [intOf]
      · by_cases ht : f &&& 8 = 0
        · have hb1 : (bits BinOp.and IntKind.u8 (f : Int) 8 != 0) = false := bit_no (f := f) (o := 8) (by omega) (by decide) ht
          have HE := Lib.hid (eachK_no (k := 3) (o := 8) rfl ht)
          generalize eachK f 3 = Q at *
          have HO := Lib.hid hown
          clear hown ht
          go_wp2_with fail
          go_roundw
          case rel => exact ⟨4, by omega, rfl, by rw [HE.out]; exact HO.out, hb⟩
          case measure => simp [intOf]
        · have hb1 : (bits BinOp.and IntKind.u8 (f : Int) 8 != 0) = true := bit_yes (f := f) (o := 8) (by omega) (by decide) ht
          have HE := Lib.hid (eachK_yes (k := 3) (o := 8) rfl ht)
          generalize eachK f 3 = Q at *
          have hs1 := hb.size
          obtain ⟨A', c', rfl⟩ := own_any hown
          clear ht
          go_wp2_with (at_builtin; refine wpList_append_own _ rfl _ _ 23 rfl w1.heap.size 22 i0 _ 1 1 Tryd.underlying23 hi hz0 hz1 hz2 rfl (by decide) _ _ _ rfl (hown.alloc _) ⟨wr.heap.size, 0, none⟩ 1 1 [.int .u8 (8 : Int)] rfl rfl (cell_one_new _ _ _) (ints_oneCell .u8 [8]) (by unfold maxLen; omega) (by omega) (by simp; omega) ?_; intro v' w8 hown' hgrow _)
          have hbz := (hb.alloc hs1 (.cells #[.int .u8 8] 22)).grown hgrow (by simp; omega) (fun k hk => (hown.lt k hk).1)
          have HN := Lib.hid hown'
          clear hown' hgrow hown
          go_wp2
          go_roundw
          case rel => exact ⟨4, by omega, rfl, by rw [HE.out]; simpa [flatL, encF] using HN.out, hbz⟩
          case measure => simp [intOf]
      · by_cases ht : f &&& 16 = 0
        · have hb1 : (bits BinOp.and IntKind.u8 (f : Int) 16 != 0) = false := bit_no (f := f) (o := 16) (by omega) (by decide) ht
          have HE := Lib.hid (eachK_no (k := 4) (o := 16) rfl ht)
          generalize eachK f 4 = Q at *
          have HO := Lib.hid hown
          clear hown ht
          go_wp2_with fail
          go_roundw
          case rel => exact ⟨5, by omega, rfl, by rw [HE.out]; exact HO.out, hb⟩
          case measure => simp [intOf]
        · have hb1 : (bits BinOp.and IntKind.u8 (f : Int) 16 != 0) = true := bit_yes (f := f) (o := 16) (by omega) (by decide) ht
          have HE := Lib.hid (eachK_yes (k := 4) (o := 16) rfl ht)
          generalize eachK f 4 = Q at *
          have hs1 := hb.size
          obtain ⟨A', c', rfl⟩ := own_any hown
          clear ht
          go_wp2_with (at_builtin; refine wpList_append_own _ rfl _ _ 23 rfl w1.heap.size 22 i0 _ 1 1 Tryd.underlying23 hi hz0 hz1 hz2 rfl (by decide) _ _ _ rfl (hown.alloc _) ⟨wr.heap.size, 0, none⟩ 1 1 [.int .u8 (16 : Int)] rfl rfl (cell_one_new _ _ _) (ints_oneCell .u8 [16]) (by unfold maxLen; omega) (by omega) (by simp; omega) ?_; intro v' w8 hown' hgrow _)
          have hbz := (hb.alloc hs1 (.cells #[.int .u8 16] 22)).grown hgrow (by simp; omega) (fun k hk => (hown.lt k hk).1)
          have HN := Lib.hid hown'
          clear hown' hgrow hown
          go_wp2
          go_roundw
          case rel => exact ⟨5, by omega, rfl, by rw [HE.out]; simpa [flatL, encF] using HN.out, hbz⟩
          case measure => simp [intOf]
    · obtain rfl : k = 5 := by omega
      obtain ⟨A', c', rfl⟩ := own_any hown
      have HO := Lib.hid hown
      clear hown
      go_wp2_with fail
      go_ret
      exact ⟨_, rfl, HO.out, hb⟩
end Go.Proofs.YtchlmmglibladaaDoor
