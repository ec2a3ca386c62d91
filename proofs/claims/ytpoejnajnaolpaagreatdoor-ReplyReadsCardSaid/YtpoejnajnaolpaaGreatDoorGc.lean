/- flag: Each: the single flags of a set, in ascending order. -/
import Derived.Test.YtpoejnajnaolpaaGreatDoorGa
import Derived.Test.YtpoejnajnaolpaaGreatDoorShelf
import Derived.Shelf.Small.Bits
import Derived.Lib.Hide
import Derived.Maps.RangeWalk
import Derived.Shelf.Strings.OnBuilder
import Derived.Deep.RegionLaw
import Derived.Laws.CopyRow
import Derived.Laws.CopyOwn
import Derived.IntWalk
import Derived.Lib.SmallJoins
import Derived.Test.YtpoejnajnaolpaaGreatDoorGb
namespace Go.Proofs.YtpoejnajnaolpaaGreatDoor
open Go.RowKit Go.Maps Go.Shelf

theorem infoF : (Tryz.prog.info? 25).map (fun i => (i.zero, i.size, i.bytes)) = some (some (.int .u8 0), 1, 1) := by kernel_rfl
/-- A flag's cells. -/
def encFl (f : Nat) : List Value := [.int .u8 (f : Int)]
/-- The single flags below the k-th. -/
def eachK (f k : Nat) : List Nat := (ones.take k).filter fun o => f &&& o != 0
theorem eachK_len (f k : Nat) : (eachK f k).length ≤ 5 := Nat.le_trans (List.length_filter_le _ _) (by rw [List.length_take]; simp [ones]; omega)
theorem eachK_all (f : Nat) : eachK f 5 = eachL f := rfl
theorem eachK_yes {f k o : Nat} (ho : ones[k]? = some o) (h : f &&& o ≠ 0) : eachK f (k + 1) = eachK f k ++ [o] := by
  unfold eachK
  rw [List.take_add_one, ho, List.filter_append]
  simp [h]
theorem eachK_no {f k o : Nat} (ho : ones[k]? = some o) (h : f &&& o = 0) : eachK f (k + 1) = eachK f k := by
  unfold eachK
  rw [List.take_add_one, ho, List.filter_append]
  simp [h]

theorem bit_no {f o : Nat} (hf : f < 256) (ho : o < 256) (h : f &&& o = 0) : (bits BinOp.and IntKind.u8 (f : Int) (o : Int) != 0) = false := by
  rw [u8_and_nat f o hf ho, h]; rfl
theorem bit_yes {f o : Nat} (hf : f < 256) (ho : o < 256) (h : f &&& o ≠ 0) : (bits BinOp.and IntKind.u8 (f : Int) (o : Int) != 0) = true := by
  rw [u8_and_nat f o hf ho]
  simp only [bne_iff_ne, ne_eq, Int.natCast_eq_zero]
  exact h

set_option maxRecDepth 100000 in
set_option maxHeartbeats 1000000 in
theorem each_any (f : Nat) (hf : f < 256) (w : World) :
    Calls Tryz.prog 80 #[.int .u8 f] w fun e w' => ∃ v, e = .returned v ∧ w'.ownsRow w.heap.size 25 1 v (eachL f).length (flatL encFl (eachL f)) ∧ Below w.heap.size w w' := by
  obtain ⟨i0, hi, hz0, hz1, hz2⟩ := info_parts infoF
  have L8 := Lib.hid (Any.bits_Len8 Tryz.lays126 31 w (by decide) (by decide))
  rw [show Lib.bitLen (31 : Int).toNat = 5 by decide] at L8
  go_enter Tryz.func80, Tryz.ntmps80
  go_wp2_with fail
  refine L8.out.mono ?_
  rintro e w1 ⟨rfl, rfl⟩
  go_wp2_with fail
  go_loopw [3, 7] (fun v i wr => ∃ k : Nat, k ≤ 5 ∧ i = .int .i64 k ∧ wr.ownsRow w1.heap.size 25 1 v (eachK f k).length (flatL encFl (eachK f k)) ∧ Below w1.heap.size w1 wr) (fun _ i _ => 5 - (intOf i).toNat)
  case atStart => exact ⟨0, by omega, rfl, World.ownsRow_nil _ _ _ _, Below.refl _ _⟩
  case round =>
    obtain ⟨k, hk, rfl, hown, hb⟩ := hrel
    by_cases hlt : k < 5
    · have hk5 : k = 0 ∨ k = 1 ∨ k = 2 ∨ k = 3 ∨ k = 4 := by omega
      have hl := eachK_len f k
      clear hk hlt
      rcases hk5 with rfl | rfl | rfl | rfl | rfl
      · by_cases ht : f &&& 1 = 0
        · have hb1 : (bits BinOp.and IntKind.u8 (f : Int) 1 != 0) = false := bit_no (f := f) (o := 1) (by omega) (by decide) ht
          have HE := Lib.hid (eachK_no (k := 0) (o := 1) rfl ht)
          generalize eachK f 0 = Q at *
          have HO := Lib.hid hown
          clear hown ht
          go_wp2_with fail
          go_roundw
          case rel => exact ⟨1, by omega, rfl, by rw [HE.out]; exact HO.out, hb⟩
          case measure => simp [intOf]
        · have hb1 : (bits BinOp.and IntKind.u8 (f : Int) 1 != 0) = true := bit_yes (f := f) (o := 1) (by omega) (by decide) ht
          have HE := Lib.hid (eachK_yes (k := 0) (o := 1) rfl ht)
          generalize eachK f 0 = Q at *
          have hs1 := hb.size
          obtain ⟨A', c', rfl⟩ := own_any hown
          clear ht
          go_wp2_with (at_builtin; refine wpList_append_own _ rfl _ _ 96 rfl w1.heap.size 25 i0 _ 1 1 Tryz.underlying96 hi hz0 hz1 hz2 rfl (by decide) _ _ _ rfl (hown.alloc _) ⟨wr.heap.size, 0, none⟩ 1 1 [.int .u8 (1 : Int)] rfl rfl (cell_one_new _ _ _) (ints_oneCell .u8 [1]) (by unfold maxLen; omega) (by omega) (by simp; omega) ?_; intro v' w8 hown' hgrow _)
          have hbz := (hb.alloc hs1 (.cells #[.int .u8 1] 25)).grown hgrow (by simp; omega) (fun k hk => (hown.lt k hk).1)
          have HN := Lib.hid hown'
          clear hown' hgrow hown
          go_wp2
          go_roundw
          case rel => exact ⟨1, by omega, rfl, by rw [HE.out]; simpa [flatL, encFl] using HN.out, hbz⟩
          case measure => simp [intOf]
      · by_cases ht : f &&& 2 = 0
        · have hb1 : (bits BinOp.and IntKind.u8 (f : Int) 2 != 0) = false := bit_no (f := f) (o := 2) (by omega) (by decide) ht
          have HE := Lib.hid (eachK_no (k := 1) (o := 2) rfl ht)
          generalize eachK f 1 = Q at *
          have HO := Lib.hid hown
          clear hown ht
          go_wp2_with fail
          go_roundw
          case rel => exact ⟨2, by omega, rfl, by rw [HE.out]; exact HO.out, hb⟩
          case measure => simp [intOf]
        · have hb1 : (bits BinOp.and IntKind.u8 (f : Int) 2 != 0) = true := bit_yes (f := f) (o := 2) (by omega) (by decide) ht
          have HE := Lib.hid (eachK_yes (k := 1) (o := 2) rfl ht)
          generalize eachK f 1 = Q at *
          have hs1 := hb.size
          obtain ⟨A', c', rfl⟩ := own_any hown
          clear ht
          go_wp2_with (at_builtin; refine wpList_append_own _ rfl _ _ 96 rfl w1.heap.size 25 i0 _ 1 1 Tryz.underlying96 hi hz0 hz1 hz2 rfl (by decide) _ _ _ rfl (hown.alloc _) ⟨wr.heap.size, 0, none⟩ 1 1 [.int .u8 (2 : Int)] rfl rfl (cell_one_new _ _ _) (ints_oneCell .u8 [2]) (by unfold maxLen; omega) (by omega) (by simp; omega) ?_; intro v' w8 hown' hgrow _)
          have hbz := (hb.alloc hs1 (.cells #[.int .u8 2] 25)).grown hgrow (by simp; omega) (fun k hk => (hown.lt k hk).1)
          have HN := Lib.hid hown'
          clear hown' hgrow hown
          go_wp2
          go_roundw
          case rel => exact ⟨2, by omega, rfl, by rw [HE.out]; simpa [flatL, encFl] using HN.out, hbz⟩
          case measure => simp [intOf]
      · by_cases ht : f &&& 4 = 0
        · have hb1 : (bits BinOp.and IntKind.u8 (f : Int) 4 != 0) = false := bit_no (f := f) (o := 4) (by omega) (by decide) ht
          have HE := Lib.hid (eachK_no (k := 2) (o := 4) rfl ht)
          generalize eachK f 2 = Q at *
          have HO := Lib.hid hown
          clear hown ht
          go_wp2_with fail
          go_roundw
          case rel => exact ⟨3, by omega, rfl, by rw [HE.out]; exact HO.out, hb⟩
          case measure => simp [intOf]
        · have hb1 : (bits BinOp.and IntKind.u8 (f : Int) 4 != 0) = true := bit_yes (f := f) (o := 4) (by omega) (by decide) ht
          have HE := Lib.hid (eachK_yes (k := 2) (o := 4) rfl ht)
          generalize eachK f 2 = Q at *
          have hs1 := hb.size
          obtain ⟨A', c', rfl⟩ := own_any hown
          clear ht
          go_wp2_with (at_builtin; refine wpList_append_own _ rfl _ _ 96 rfl w1.heap.size 25 i0 _ 1 1 Tryz.underlying96 hi hz0 hz1 hz2 rfl (by decide) _ _ _ rfl (hown.alloc _) ⟨wr.heap.size, 0, none⟩ 1 1 [.int .u8 (4 : Int)] rfl rfl (cell_one_new _ _ _) (ints_oneCell .u8 [4]) (by unfold maxLen; omega) (by omega) (by simp; omega) ?_; intro v' w8 hown' hgrow _)
          have hbz := (hb.alloc hs1 (.cells #[.int .u8 4] 25)).grown hgrow (by simp; omega) (fun k hk => (hown.lt k hk).1)
          have HN := Lib.hid hown'
          clear hown' hgrow hown
          go_wp2
          go_roundw
          case rel => exact ⟨3, by omega, rfl, by rw [HE.out]; simpa [flatL, encFl] using HN.out, hbz⟩
          case measure => simp [intOf]
      · by_cases ht : f &&& 8 = 0
        · have hb1 : (bits BinOp.and IntKind.u8 (f : Int) 8 != 0) = false := bit_no (f := f) (o := 8) (by omega) (by decide) ht
          have HE := Lib.hid (eachK_no (k := 3) (o := 8) rfl ht)
          generalize eachK f 3 = Q at *
          have HO := Lib.hid hown
          clear hown ht
          go_wp2_with fail
          go_roundw
          case rel => exact ⟨4, by omega, rfl, by rw [HE.out]; exact HO.out, hb⟩
          case measure => simp [intOf]
        · have hb1 : (bits BinOp.and IntKind.u8 (f : Int) 8 != 0) = true := bit_yes (f := f) (o := 8) (by omega) (by decide) ht
          have HE := Lib.hid (eachK_yes (k := 3) (o := 8) rfl ht)
          generalize eachK f 3 = Q at *
          have hs1 := hb.size
          obtain ⟨A', c', rfl⟩ := own_any hown
          clear ht
          go_wp2_with (at_builtin; refine wpList_append_own _ rfl _ _ 96 rfl w1.heap.size 25 i0 _ 1 1 Tryz.underlying96 hi hz0 hz1 hz2 rfl (by decide) _ _ _ rfl (hown.alloc _) ⟨wr.heap.size, 0, none⟩ 1 1 [.int .u8 (8 : Int)] rfl rfl (cell_one_new _ _ _) (ints_oneCell .u8 [8]) (by unfold maxLen; omega) (by omega) (by simp; omega) ?_; intro v' w8 hown' hgrow _)
          have hbz := (hb.alloc hs1 (.cells #[.int .u8 8] 25)).grown hgrow (by simp; omega) (fun k hk => (hown.lt k hk).1)
          have HN := Lib.hid hown'
          clear hown' hgrow hown
          go_wp2
          go_roundw
          case rel => exact ⟨4, by omega, rfl, by rw [HE.out]; simpa [flatL, encFl] using HN.out, hbz⟩
          case measure => simp [intOf]
      · by_cases ht : f &&& 16 = 0
        · have hb1 : (bits BinOp.and IntKind.u8 (f : Int) 16 != 0) = false := bit_no (f := f) (o := 16) (by omega) (by decide) ht
          have HE := Lib.hid (eachK_no (k := 4) (o := 16) rfl ht)
          generalize eachK f 4 = Q at *
          have HO := Lib.hid hown
          clear hown ht
          go_wp2_with fail
          go_roundw
          case rel => exact ⟨5, by omega, rfl, by rw [HE.out]; exact HO.out, hb⟩
          case measure => simp [intOf]
        · have hb1 : (bits BinOp.and IntKind.u8 (f : Int) 16 != 0) = true := bit_yes (f := f) (o := 16) (by omega) (by decide) ht
          have HE := Lib.hid (eachK_yes (k := 4) (o := 16) rfl ht)
          generalize eachK f 4 = Q at *
          have hs1 := hb.size
          obtain ⟨A', c', rfl⟩ := own_any hown
          clear ht
          go_wp2_with (at_builtin; refine wpList_append_own _ rfl _ _ 96 rfl w1.heap.size 25 i0 _ 1 1 Tryz.underlying96 hi hz0 hz1 hz2 rfl (by decide) _ _ _ rfl (hown.alloc _) ⟨wr.heap.size, 0, none⟩ 1 1 [.int .u8 (16 : Int)] rfl rfl (cell_one_new _ _ _) (ints_oneCell .u8 [16]) (by unfold maxLen; omega) (by omega) (by simp; omega) ?_; intro v' w8 hown' hgrow _)
          have hbz := (hb.alloc hs1 (.cells #[.int .u8 16] 25)).grown hgrow (by simp; omega) (fun k hk => (hown.lt k hk).1)
          have HN := Lib.hid hown'
          clear hown' hgrow hown
          go_wp2
          go_roundw
          case rel => exact ⟨5, by omega, rfl, by rw [HE.out]; simpa [flatL, encFl] using HN.out, hbz⟩
          case measure => simp [intOf]
    · obtain rfl : k = 5 := by omega
      obtain ⟨A', c', rfl⟩ := own_any hown
      have HO := Lib.hid hown
      clear hown
      go_wp2_with fail
      go_ret
      exact ⟨_, rfl, HO.out, hb⟩
end Go.Proofs.YtpoejnajnaolpaaGreatDoor

namespace Go.Proofs.YtpoejnajnaolpaaGreatDoor
open Go.RowKit Go.Maps

theorem keyF : Keyed Tryz.prog 25 := int_keyed Tryz.underlying25
theorem keyS : Keyed Tryz.prog 9 := string_keyed Tryz.underlying9
theorem zeroS (w : World) : (zeroValue 9).run Tryz.prog w = .ok (.string ⟨#[]⟩) w := by kernel_rfl
theorem zeroF (w : World) : (zeroValue 25).run Tryz.prog w = .ok (.int .u8 0) w := by kernel_rfl
theorem kF (x : Nat) (h : x ≤ 255) : keyOf Tryz.prog 25 (.int .u8 (x : Int)) = some (.int .u8 (x : Int)) :=
  keyOf_int_mk Tryz.underlying25 (by simp [Lit.wf, IntKind.min, IntKind.max, IntKind.signed, IntKind.bits]; omega)
theorem eS (l : List UInt8) (h : l.length ≤ 100) : plainElem (H := Unit) Tryz.prog 9 (.string ⟨l.toArray⟩) = some (strD l, []) :=
  plainElem_string Tryz.underlying9 (s := ⟨l.toArray⟩) (by unfold maxLen; show l.toArray.size ≤ _; simp; omega)

set_option maxRecDepth 100000 in
theorem names_any (w : World) :
    Calls Tryz.prog 79 #[] w fun e w' => e = .returned (.map (some w.heap.size)) ∧ w'.ownsMap Tryz.prog 25 (plainElem Tryz.prog 9) w.heap.size 5 nmD ∧ Below w.heap.size w w' := by
  have hmm := @run_makeMap Tryz.prog
  have hown := World.ownsMap_made (H := Unit) w Tryz.prog 25 (plainElem Tryz.prog 9)
  have hb : Below w.heap.size w (w.alloc (.map #[] 0)) := (Below.refl _ _).alloc (Nat.le_refl _) _
  have HO := Lib.hid hown
  clear hown
  go_enter Tryz.func79, Tryz.ntmps79
  go_wp2_with (first
    | (refine wpList_insert_own (H := Unit) _ rfl _ (.const (.int .u8 1)) _ 94 rfl 25 9 keyF Tryz.underlying94 (plainElem Tryz.prog 9) w.heap.size 0 _ rfl HO.out (by decide) (.int .u8 1) _ (.int .u8 1) rfl rfl (kF 1 (by decide)) _ [] (eS (nameF 1) (by decide)) ?_; intro w1 ho1 hg1; have HO1 := Lib.hid ho1; have hb1 := hb.grown hg1 (by simp) (fun j hj => by cases hj; exact Nat.le_refl _); clear ho1 hg1)
    | (refine wpList_insert_own (H := Unit) _ rfl _ (.const (.int .u8 2)) _ 94 rfl 25 9 keyF Tryz.underlying94 (plainElem Tryz.prog 9) w.heap.size 1 _ rfl HO1.out (by decide) (.int .u8 2) _ (.int .u8 2) rfl rfl (kF 2 (by decide)) _ [] (eS (nameF 2) (by decide)) ?_; intro w2 ho2 hg2; have HO2 := Lib.hid ho2; have hb2 := hb1.grown hg2 (by exact hb1.size) (fun j hj => by cases hj; exact Nat.le_refl _); clear ho2 hg2)
    | (refine wpList_insert_own (H := Unit) _ rfl _ (.const (.int .u8 4)) _ 94 rfl 25 9 keyF Tryz.underlying94 (plainElem Tryz.prog 9) w.heap.size 2 _ rfl HO2.out (by decide) (.int .u8 4) _ (.int .u8 4) rfl rfl (kF 4 (by decide)) _ [] (eS (nameF 4) (by decide)) ?_; intro w3 ho3 hg3; have HO3 := Lib.hid ho3; have hb3 := hb2.grown hg3 (by exact hb2.size) (fun j hj => by cases hj; exact Nat.le_refl _); clear ho3 hg3)
    | (refine wpList_insert_own (H := Unit) _ rfl _ (.const (.int .u8 8)) _ 94 rfl 25 9 keyF Tryz.underlying94 (plainElem Tryz.prog 9) w.heap.size 3 _ rfl HO3.out (by decide) (.int .u8 8) _ (.int .u8 8) rfl rfl (kF 8 (by decide)) _ [] (eS (nameF 8) (by decide)) ?_; intro w4 ho4 hg4; have HO4 := Lib.hid ho4; have hb4 := hb3.grown hg4 (by exact hb3.size) (fun j hj => by cases hj; exact Nat.le_refl _); clear ho4 hg4)
    | (refine wpList_insert_own (H := Unit) _ rfl _ (.const (.int .u8 16)) _ 94 rfl 25 9 keyF Tryz.underlying94 (plainElem Tryz.prog 9) w.heap.size 4 _ rfl HO4.out (by decide) (.int .u8 16) _ (.int .u8 16) rfl rfl (kF 16 (by decide)) _ [] (eS (nameF 16) (by decide)) ?_; intro w5 ho5 hg5; have HO5 := Lib.hid ho5; have hb5 := hb4.grown hg5 (by exact hb4.size) (fun j hj => by cases hj; exact Nat.le_refl _); clear ho5 hg5))
  go_ret
  exact ⟨rfl, HO5.out, hb5⟩
theorem str_of {s : ByteArray} {l : List UInt8} (h : s.data.toList = l) : s = ⟨l.toArray⟩ := by subst h; cases s; rfl
theorem ret_str {a b : ByteArray} (h : a = b) : Ending.returned (.string a) = .returned (.string b) := by rw [h]
end Go.Proofs.YtpoejnajnaolpaaGreatDoor

namespace Go.Proofs.YtpoejnajnaolpaaGreatDoor
open Go.RowKit Go.Maps Go.Shelf

theorem encFl_len (x : Nat) : (encFl x).length = 1 := rfl
/-- A map's block is no row. -/
theorem map_ne_row {H : Type} {P : Program} {k : TypeId} {R : Value → Option (DataW H × List MemPlace)} {w : World} {b n : Nat} {D : DataW H} (hm : w.ownsMap P k R b n D) {base : Nat} {e : TypeId} {size m : Nat} {v : Value} {xs : List Value} (ho : w.ownsRow base e size v m xs) : some b ≠ v.ownBlock := by
  rcases ho.2 with ⟨rfl, _⟩ | ⟨g, cap, cur, rfl, _, hgb, _⟩
  · simp [Value.ownBlock]
  · intro e
    obtain rfl : b = g := by simpa [Value.ownBlock] using e
    obtain ⟨es, clock, hb, _⟩ := hm
    rw [hgb] at hb
    cases hb

theorem SlAt.oneF {w : World} {A : Option Addr} {l : List Nat} (h : SlAt encFl 1 w A l) {k : Nat} (hk : k < l.length) :
    ∃ b off, A = some ⟨b, off, none⟩ ∧ b < w.heap.size ∧ w.cell? ⟨b, off + k, none⟩ = some (.int .u8 (l[k] : Nat)) := by
  obtain ⟨b, off, rfl, hb, hc⟩ := h.at_ hk
  refine ⟨b, off, rfl, hb, ?_⟩
  have := hc 0 _ rfl
  simpa using this
theorem nm_str {x : Nat} {s : ByteArray} (h : nmD.atKey (.int .u8 (x : Int)) (.lit (.string [])) = .lit (.string s.data.toList)) : s = ⟨(nameF x).toArray⟩ := by
  rw [show (DataW.lit (.string []) : DataW Unit) = strD [] from rfl, nm_name] at h
  unfold strD at h
  injection h with h
  injection h with h
  exact str_of h.symm
theorem sp_len : ∀ (xs : List Nat), (spL (xs.map nameF)).length ≤ 10 * xs.length := by
  intro xs
  induction xs with
  | nil => simp [spL_nil]
  | cons x xs ih =>
    cases xs with
    | nil => rw [List.map_cons, List.map_nil, spL_one]; have := name_len x; simp; omega
    | cons y ys =>
      rw [List.map_cons, List.map_cons, spL_cons, ← List.map_cons]
      have := name_len x
      simp only [List.length_append, List.length_cons] at ih ⊢
      omega
theorem take_map (l : List Nat) (k : Nat) (h : k < l.length) : (l.take (k + 1)).map nameF = (l.take k).map nameF ++ [nameF l[k]] := by
  rw [List.take_succ_eq_append_getElem h, List.map_append]; rfl

set_option maxRecDepth 100000 in
set_option maxHeartbeats 2000000 in
theorem flist_any (f : Nat) (hf : f < 256) (w : World) :
    Calls Tryz.prog 55 #[.int .u8 f] w fun e w' => e = .returned (.string ⟨(listL f).toArray⟩) ∧ Below w.heap.size w w' := by
  obtain ⟨i0, hi, hz0, hz1, hz2⟩ := info_parts infoS
  have N := Lib.hid (names_any w)
  have E := Lib.hid (fun w1 => each_any f hf w1)
  have hlE : (eachL f).length ≤ 5 := eachK_len f 5
  have HLL := Lib.hid (show listL f = 40 :: (spL ((eachL f).map nameF) ++ [41]) from rfl)
  have hones : ∀ x ∈ eachL f, x ∈ ones := fun x hx => eachL_ones hx
  generalize eachL f = l at *
  have HON := Lib.hid hones
  clear hones
  go_enter Tryz.func55, Tryz.ntmps55
  go_wp2_with fail
  refine N.out.mono ?_
  rintro e w1 ⟨rfl, hm, hb1⟩
  have HM := Lib.hid hm
  clear N hm
  go_wp2_with fail
  refine (E.out _).mono ?_
  rintro e w2 ⟨v2, rfl, hr, hb2⟩
  obtain ⟨A2, c2, rfl⟩ := own_any hr
  have HR := Lib.hid hr
  have HM2 := Lib.hid (map_below HM.out hb2)
  have hb := below_next hb1 hb2
  have hbw := hb.size
  clear hr HM hb1 hb2 E
  go_wp2_with fail
  go_loopw [4, 11] (fun v i wr => ∃ k : Nat, k ≤ l.length ∧ i = .int .i64 k ∧ wr.ownsRow w.heap.size 9 1 v ((l.take k).map nameF).length (flatL encS ((l.take k).map nameF)) ∧
      wr.ownsRow w1.heap.size 25 1 (.slice A2 l.length c2) l.length (flatL encFl l) ∧ wr.ownsMap Tryz.prog 25 (plainElem Tryz.prog 9) w.heap.size 5 nmD ∧ Below w.heap.size w wr)
    (fun _ i _ => l.length - (intOf i).toNat)
  case atStart => exact ⟨0, Nat.zero_le _, rfl, World.ownsRow_nil _ _ _ _, HR.out, HM2.out, hb⟩
  case round =>
    obtain ⟨k, hk, rfl, hrow, hfl, hmp, hB⟩ := hrel
    by_cases hlt : k < l.length
    · obtain ⟨b, off, rfl, hbl, hc0⟩ := (SlAt.of_own encFl_len hfl).oneF hlt
      have hx16 : l[k] ≤ 255 := by have := HON.out _ (List.getElem_mem hlt); rcases ones_mem.1 this with e | e | e | e | e <;> omega
      have HT := Lib.hid (take_map l k hlt)
      have HF := Lib.hid hfl
      have HP := Lib.hid hmp
      have hnl := name_len l[k]
      have hql : ((l.take k).map nameF).length ≤ 5 := by rw [List.length_map, List.length_take]; omega
      have hsB := hB.size
      clear hfl hmp HR HM2 hb
      generalize l[k] = x at *
      generalize (l.take k).map nameF = Q at *
      obtain ⟨A', c', rfl⟩ := own_any hrow
      go_wp2_with (first
        | (at_lookup; refine wpList_lookup_own_string _ rfl _ _ 94 rfl 25 9 keyF Tryz.underlying94 Tryz.underlying9 (zeroS _) w.heap.size 5 _ rfl HP.out _ _ rfl (kF x hx16) ?_; intro s hat; obtain rfl := nm_str hat; clear hat)
        | (at_builtin; refine wpList_append_own _ rfl _ _ 71 rfl w.heap.size 9 i0 _ 1 16 Tryz.underlying71 hi hz0 hz1 hz2 rfl (by decide) _ _ _ rfl (hrow.alloc _) ⟨wr.heap.size, 0, none⟩ 1 1 (encS (nameF x)) rfl rfl (cell_one_new _ _ _) (by intro u hu; simp [encS] at hu; subst hu; rfl) (by unfold maxLen; omega) (by omega) (by simp; omega) ?_; intro v' w8 hown' hgrow _))
      have hB8 := (hB.alloc hsB (.cells (encS (nameF x)).toArray 9)).grown hgrow (by simp; omega) (fun k hk => (hrow.lt k hk).1)
      have HN := Lib.hid hown'
      have HF8 := Lib.hid ((KeepsT.app hrow (T := 25) (by decide) hgrow).own HF.out)
      have HP8 := Lib.hid ((HP.out.alloc _).kept hgrow (map_ne_row HP.out hrow))
      clear hown' hgrow hrow HF HP hc0
      go_wp2
      go_roundw
      case rel => exact ⟨k + 1, by omega, by go_num, by rw [HT.out]; simpa [flatL, encS] using HN.out, HF8.out, HP8.out, hB8⟩
      case measure => simp [intOf]; omega
    · obtain rfl : k = l.length := by omega
      rw [List.take_length] at hrow
      have hls : (l.map nameF).length = l.length := List.length_map _
      by_cases hnil : l = []
      · subst hnil
        obtain ⟨A', c', rfl⟩ := own_any hrow
        have J := Lib.hid (Any.strings_Join_none Tryz.lays156 Tryz.Builder_Extra_156 A' c' ⟨#[32]⟩ wr)
        clear hrow hfl hmp HR HM2 hls
        go_wp2_with fail
        refine J.out.mono ?_
        rintro e w3 ⟨rfl, rfl⟩
        go_wp2_with fail
        go_ret
        exact ⟨ret_str (by rw [HLL.out]; rfl), hB⟩
      · have hpos : 0 < l.length := List.length_pos_iff.2 hnil
        rw [hls] at hrow
        obtain ⟨xs, hxs⟩ : ∃ xs : List ByteArray, xs = l.map fun x => ByteArray.mk (nameF x).toArray := ⟨_, rfl⟩
        have hxl : xs.length = l.length := by rw [hxs, List.length_map]
        have hxm : xs.map (fun x => x.data.toList) = l.map nameF := by rw [hxs, List.map_map]; rfl
        have hspl : (spL (l.map nameF)).length ≤ 50 := by
          have := sp_len l
          omega
        obtain ⟨g, cap, rfl, hg, hcap⟩ : ∃ g cap, u4 = .slice (some ⟨g, 0, none⟩) l.length cap ∧ g < wr.heap.size ∧ l.length ≤ cap := by
          rcases hrow.2 with ⟨rfl, h⟩ | ⟨g, cap, cur, rfl, h1, h2, h3, h4, h5, h6⟩
          · omega
          · exact ⟨g, cap, rfl, (Array.getElem?_eq_some_iff.1 h2).1, by first | exact h3 | exact h5 | omega⟩
        have J := Any.strings_Join Tryz.lays156 Tryz.Builder_Extra_156 g 0 cap xs ⟨#[32]⟩ wr (fun j x hx => by
          have h1 : (flatL encS (l.map nameF))[j]? = some (.string x) := by
            have h2 : (l.map nameF)[j]? = some x.data.toList := by rw [← hxm, List.getElem?_map, hx]; rfl
            have := flatL_at encS_len (l.map nameF) j _ h2 0 (.string x) (by simp [encS])
            simpa using this
          have := hrow.cells (g := g) rfl j _ h1
          rw [Addr.add_lit] at this
          exact this) hg (by omega) (by omega) (by rw [hxm]; show (spL (l.map nameF)).length ≤ _; omega)
        rw [hxl, hxm] at J
        have HJ := Lib.hid J
        have HS := Lib.hid (show Lib.join (l.map nameF) (ByteArray.mk #[32]).data.toList = spL (l.map nameF) from rfl)
        rw [HS.out] at HJ
        generalize spL (l.map nameF) = sp at *
        clear J hrow hfl hmp HR HM2 hls hxs hxl hxm HS
        go_wp2_with fail
        refine HJ.out.mono ?_
        rintro e w3 ⟨rfl, hb3⟩
        have hB3 := below_next hB hb3
        go_wp2_with fail
        go_ret
        refine ⟨ret_str (str_of ?_), hB3⟩
        rw [HLL.out]
        simp [ByteArray.data_append]
end Go.Proofs.YtpoejnajnaolpaaGreatDoor

namespace Go.Proofs.YtpoejnajnaolpaaGreatDoor
open Go.RowKit Go.Maps Go.Shelf

theorem spL_len : ∀ (ns : List (List UInt8)), (∀ p ∈ ns, p.length ≤ 9000) → (spL ns).length ≤ ns.length * 9001
  | [], _ => by simp [spL_nil]
  | [p], h => by rw [spL_one]; have := h p (by simp); simp; omega
  | p :: q :: ps, h => by
    have ih := spL_len (q :: ps) (fun x hx => h x (by simp [hx]))
    have := h p (by simp)
    rw [spL_cons]
    simp only [List.length_append, List.length_cons] at ih ⊢
    omega

/-- strings.Join at a row of the call's own. -/
theorem joinS_any (ns : List (List UInt8)) (v : Value) (base : Nat) (w : World) (hO : w.ownsRow base 9 1 v ns.length (flatL encS ns)) (hn : ns.length ≤ 100000) (hs : (spL ns).length ≤ 1000000000) :
    Calls Tryz.prog 81 #[v, .string ⟨#[32]⟩] w fun e w' => e = .returned (.string ⟨(spL ns).toArray⟩) ∧ Below w.heap.size w w' := by
  by_cases hnil : ns = []
  · subst hnil
    obtain ⟨A', c', rfl⟩ := own_any hO
    exact (Any.strings_Join_none Tryz.lays156 Tryz.Builder_Extra_156 A' c' ⟨#[32]⟩ w).mono fun e w' ⟨he, hw⟩ => ⟨he, hw ▸ Below.refl _ _⟩
  · have hpos : 0 < ns.length := List.length_pos_iff.2 hnil
    obtain ⟨xs, hxs⟩ : ∃ xs : List ByteArray, xs = ns.map fun x => ByteArray.mk x.toArray := ⟨_, rfl⟩
    have hxl : xs.length = ns.length := by rw [hxs, List.length_map]
    have hxm : xs.map (fun x => x.data.toList) = ns := by rw [hxs, List.map_map]; simp [Function.comp_def]
    obtain ⟨g, cap, rfl, hg, hcap⟩ : ∃ g cap, v = .slice (some ⟨g, 0, none⟩) ns.length cap ∧ g < w.heap.size ∧ ns.length ≤ cap := by
      rcases hO.2 with ⟨rfl, h⟩ | ⟨g, cap, cur, rfl, h1, h2, h3, h4, h5, h6⟩
      · omega
      · exact ⟨g, cap, rfl, (Array.getElem?_eq_some_iff.1 h2).1, by first | exact h3 | exact h5 | omega⟩
    have J := Any.strings_Join Tryz.lays156 Tryz.Builder_Extra_156 g 0 cap xs ⟨#[32]⟩ w (fun j x hx => by
      have h1 : (flatL encS ns)[j]? = some (.string x) := by
        have h2 : ns[j]? = some x.data.toList := by rw [← hxm, List.getElem?_map, hx]; rfl
        have := flatL_at encS_len ns j _ h2 0 (.string x) (by simp [encS])
        simpa using this
      have := hO.cells (g := g) rfl j _ h1
      rw [Addr.add_lit] at this
      exact this) hg (by omega) (by omega) (by rw [hxm]; show (spL ns).length ≤ _; omega)
    rw [hxl, hxm] at J
    exact J
end Go.Proofs.YtpoejnajnaolpaaGreatDoor

namespace Go.Proofs.YtpoejnajnaolpaaGreatDoor
open Go.RowKit

/-- The cells of bytes. -/
def cellsB (l : List UInt8) : List Value := l.map fun c => Value.int .u8 (c.toNat : Int)
theorem cellsB_len (l : List UInt8) : (cellsB l).length = l.length := by simp [cellsB]
theorem cellsB_append (a b : List UInt8) : cellsB (a ++ b) = cellsB a ++ cellsB b := by simp [cellsB]

/-- Array g, the count's box bu, the slice's box ba: what a collector of so many places has collected. -/
structure Col (B g bu ba size : Nat) (l : List UInt8) (w : World) : Prop where
  bg : B ≤ g
  bbu : B ≤ bu
  bba : B ≤ ba
  gu : g ≠ bu
  ga : g ≠ ba
  ua : bu ≠ ba
  row : ∃ tail : List Value, w.heap[g]? = some (.cells (cellsB l ++ tail).toArray 5 (0, 0)) ∧ l.length + tail.length = size
  used : w.heap[bu]? = some (.cells #[.int .i64 (l.length : Int)] 3 (0, 0))
  all : w.heap[ba]? = some (.cells #[.slice (some ⟨g, 0, none⟩) size size] 22 (0, 0))

theorem Col.below {B g bu ba size : Nat} {l : List UInt8} {w w' : World} (h : Col B g bu ba size l w) (hb : Below w.heap.size w w') : Col B g bu ba size l w' := by
  obtain ⟨h1, h2, h3, h4, h5, h6, ⟨t, h7, h7'⟩, h8, h9⟩ := h
  exact ⟨h1, h2, h3, h4, h5, h6, ⟨t, (hb.block g (Array.getElem?_eq_some_iff.1 h7).1).trans h7, h7'⟩, (hb.block bu (Array.getElem?_eq_some_iff.1 h8).1).trans h8, (hb.block ba (Array.getElem?_eq_some_iff.1 h9).1).trans h9⟩

theorem infoB : (Tryz.prog.info? 5).map (fun i => (i.zero, i.size, i.bytes)) = some (some (.int .u8 0), 1, 1) := by kernel_rfl

/-- copy into a row that is known whole, as a step of a region that draws: the row behind it, all else as it was. -/
theorem step_copy_col {P : Program} {ops : Array Oper} {o : Oper} {a : Act} {w : World} {K : Act → World → Prop} {Q : Exit → Act → World → Prop} {E : Prop} (hgd : o.guard = none) (d s : Operand) (dT sT : TypeId)
    (ho : o.op = .call { callee := .builtin .copy, args := #[d, s], argTypes := #[dT, sT] }) (elem : TypeId) (hu : P.underlying dT = some (.slice elem)) (hsz : (P.info? elem).map (·.size) = some 1)
    (dp sp : Option Addr) (dLen dCap sLen sCap : Nat) (hd : a.eval d = .slice dp dLen dCap) (hs : a.eval s = .slice sp sLen sCap)
    (g off : Nat) (cur : List Value) (t : TypeId) (hg : w.heap[g]? = some (.cells cur.toArray t (0, 0))) (cs : List Value) (m : Nat) (hm : cs.length = m) (hn : cs.length = Nat.min sLen dLen)
    (hpos : 0 < cs.length → dp = some ⟨g, off, none⟩ ∧ ∃ ad, sp = some ad ∧ ∀ j v, cs[j]? = some v → w.cell? (ad.add j) = some v)
    (hfit : off + cs.length ≤ cur.length) (h1 : ∀ v ∈ cs, v.oneCell' = true)
    (h : ∀ w', Hid (w'.heap[g]? = some (.cells (splice cur off cs).toArray t (0, 0))) → w.grownBy w' (some g) → K (a.put o.dst (.int .i64 (m : Int))) w') :
    if Region.wanted o (yielded ops a.tmps) = true then Oper.wp P o a w K Q else E := by
  subst hm
  have hw : Region.wanted o (yielded ops a.tmps) = true := by simp [Region.wanted, hgd]
  rw [if_pos hw]
  by_cases h0 : cs.length = 0
  · obtain rfl : cs = [] := List.eq_nil_of_length_eq_zero h0
    have hrun := run_copy_none (P := P) w dT sT o.type elem dp sp dLen dCap sLen sCap hu hsz (by simpa using hn.symm)
    unfold Oper.wp
    simp [execOp, ho, resolve, invoke, builtin, hd, hs, hrun, Result.andThen]
    exact h w (show _ = _ by simpa [splice] using hg) (World.grownBy.refl w _)
  · obtain ⟨rfl, ad, rfl, hsrc⟩ := hpos (by omega)
    have hrun := run_copy_row (P := P) w dT sT o.type elem g off dLen dCap ad sLen sCap cur.toArray t cs hu hsz hg hn hsrc (by simpa using hfit) h1
    unfold Oper.wp
    simp [execOp, ho, resolve, invoke, builtin, hd, hs, hrun, Result.andThen]
    refine h _ (show _ = _ by simpa [splice] using setRow_heap w g _ _ t _ hg) ⟨rfl, rfl, rfl, by simp [World.setRow], fun k hk hne => setRow_other w g k _ (fun e => hne (by rw [e]))⟩

theorem splice_end (l p : List UInt8) (tail : List Value) : splice (cellsB l ++ tail) l.length (cellsB p) = cellsB (l ++ p) ++ tail.drop p.length := by
  unfold splice
  have e1 : (cellsB l ++ tail).take l.length = cellsB l := by rw [← cellsB_len l, List.take_left']; rfl
  have e2 : (cellsB l ++ tail).drop (l.length + (cellsB p).length) = tail.drop p.length := by
    rw [cellsB_len, ← cellsB_len l, List.drop_append]
    simp
  rw [e1, e2, cellsB_append, List.append_assoc]

theorem oneB (l : List UInt8) : ∀ v ∈ cellsB l, v.oneCell' = true := by
  intro v hv
  obtain ⟨c, _, rfl⟩ := List.mem_map.1 hv
  rfl
theorem ByAt.cellsAt {B c : Nat} {w W : World} {A : Option Addr} {p : List UInt8} (h : ByAt B w A c p) (hp : 0 < p.length) (hW : W.heap = w.heap) : ∃ ad, A = some ad ∧ ∀ j v, (cellsB p)[j]? = some v → W.cell? (ad.add j) = some v := by
  rcases h.lies with rfl | ⟨b, off, rfl, _, _, hc⟩
  · simp at hp
  · refine ⟨_, rfl, fun j v hj => ?_⟩
    have hlt : j < p.length := by
      have := (List.getElem?_eq_some_iff.1 hj).1
      rwa [cellsB_len] at this
    have e : (cellsB p)[j]? = some (.int .u8 (p[j].toNat : Int)) := by simp [cellsB, hlt]
    rw [e] at hj
    rw [Addr.add_lit, ← Option.some.inj hj, ← hc j hlt]
    unfold World.cell?
    rw [hW]
theorem hposB {B c n g size : Nat} {w W : World} {A : Option Addr} {l p : List UInt8} {tail : List Value} (h : ByAt B w A c p) (hl : l.length + tail.length = size) (hn : p.length = n) (hfit : l.length + n ≤ size) (hW : W.heap = w.heap) :
    0 < (cellsB p).length → offA (some ⟨g, 0, none⟩) size l.length = some ⟨g, l.length, none⟩ ∧ ∃ ad, A = some ad ∧ ∀ j v, (cellsB p)[j]? = some v → W.cell? (ad.add j) = some v := fun h0 => by
  rw [cellsB_len] at h0
  refine ⟨?_, h.cellsAt h0 hW⟩
  unfold offA
  rw [if_neg (by omega)]
  simp only [Option.map_some, Addr.add_lit, Nat.zero_add, Nat.mul_one]

theorem col_end {B g bu ba size n : Nat} {l p : List UInt8} {w w' : World} {tail : List Value} (bg : B ≤ g) (bbu : B ≤ bu) (bba : B ≤ ba) (gu : g ≠ bu) (ga : g ≠ ba) (ua : bu ≠ ba) (hl : l.length + tail.length = size) (hn : p.length = n) (hfit : l.length + n ≤ size)
    (R : w'.heap[g]? = some (.cells (splice (cellsB l ++ tail) l.length (cellsB p)).toArray 5 (0, 0))) (K1 : w'.heap[bu]? = some (.cells #[.int .i64 (l.length : Int)] 3 (0, 0))) (K2 : w'.heap[ba]? = some (.cells #[.slice (some ⟨g, 0, none⟩) size size] 22 (0, 0))) (G : w.drew.grownBy w' (some g)) (hgw : g < w.heap.size) :
    Col B g bu ba size (l ++ p) (w'.setCell ⟨bu, 0, none⟩ (.int .i64 ((l.length : Int) + (n : Int)))) ∧ Below B w (w'.setCell ⟨bu, 0, none⟩ (.int .i64 ((l.length : Int) + (n : Int)))) := by
  rw [splice_end] at R
  have other : ∀ k, k ≠ bu → (w'.setCell ⟨bu, 0, none⟩ (.int .i64 ((l.length : Int) + (n : Int)))).heap[k]? = w'.heap[k]? := fun k hk => Below.heap_setCell _ _ _ k hk
  refine ⟨⟨bg, bbu, bba, gu, ga, ua, ⟨tail.drop p.length, (other g gu).trans R, by rw [List.length_append, List.length_drop]; omega⟩, ?_, (other ba (Ne.symm ua)).trans K2⟩, ?_⟩
  · rw [Joins.block_setCell K1]
    simp [hn]
  · have h1 : Below B w w' := (Below.refl B w).drew.grown G (by show B ≤ w.heap.size; omega) (fun k e => by cases e; exact bg)
    exact h1.setCell (p := ⟨bu, 0, none⟩) bbu _

set_option maxRecDepth 100000 in
set_option maxHeartbeats 1000000 in
theorem put_any (B g bu ba size : Nat) (l p : List UInt8) (B' : Nat) (A : Option Addr) (c n : Nat) (hn : p.length = n) (hfit : l.length + n ≤ size) (hsz : size ≤ 1000000000) (w : World) (hC : Col B g bu ba size l w) (hP : ByAt B' w A c p) :
    Calls Tryz.prog 122 #[.slice A n c, .pointer (some ⟨bu, 0, none⟩), .pointer (some ⟨ba, 0, none⟩)] w fun e w' =>
      e = .returned (.slice (some ⟨g, 0, none⟩) (l.length + n) size) ∧ Col B g bu ba size (l ++ p) w' ∧ Below B w w' := by
  obtain ⟨bg, bbu, bba, gu, ga, ua, ⟨tail, hrow, hlen⟩, hu, ha⟩ := hC
  have c1 : w.cell? ⟨bu, 0, none⟩ = some (.int .i64 (l.length : Int)) := cell_of_row w bu 0 _ _ _ hu
  have c2 : w.cell? ⟨ba, 0, none⟩ = some (.slice (some ⟨g, 0, none⟩) size size) := cell_of_row w ba 0 _ _ _ ha
  have hs1 := fun W => slice_l (some ⟨g, 0, none⟩) size size l.length (by omega) W
  have hs2 : ∀ W : World, (Instr.slice 22 (.slice (some ⟨g, 0, none⟩) size size) none (some (.int .i64 ((l.length : Int) + (n : Int)))) none).run Tryz.prog W = .ok (.slice (some ⟨g, 0, none⟩) (l.length + n) size) W := fun W => by
    have := slice_h (some ⟨g, 0, none⟩) size size (l.length + n) (by omega) W
    rwa [Int.natCast_add] at this
  have hse := fun x lo hi mx W => sliceAt_eq x lo hi mx W
  have HR := Lib.hid hrow
  have HU := Lib.hid hu
  have HA := Lib.hid ha
  have HN := Lib.hid hn
  have HL := Lib.hid hlen
  have HP := Lib.hid hP
  have H1 := Lib.hid (show (cellsB p).length = Nat.min n (size - l.length) by rw [cellsB_len, hn]; exact (Nat.min_eq_left (by omega)).symm)
  have H2 := Lib.hid (show l.length + (cellsB p).length ≤ (cellsB l ++ tail).length by rw [List.length_append, cellsB_len, cellsB_len, hn]; omega)
  clear hrow hu ha hn hlen hP
  go_enter Tryz.func122, Tryz.ntmps122
  have hua : ba ≠ bu := Ne.symm ua
  have KF : ∀ (W w' : World), W.heap = w.heap → W.grownBy w' (some g) → w'.heap[bu]? = some (.cells #[.int .i64 (l.length : Int)] 3 (0, 0)) ∧ w'.heap[ba]? = some (.cells #[.slice (some ⟨g, 0, none⟩) size size] 22 (0, 0)) := fun W w' e G => by
    refine ⟨(G.block bu ?_ (fun e => gu (Option.some.inj e).symm)).trans (e ▸ HU.out), (G.block ba ?_ (fun e => ga (Option.some.inj e).symm)).trans (e ▸ HA.out)⟩
    · rw [e]; exact (Array.getElem?_eq_some_iff.1 HU.out).1
    · rw [e]; exact (Array.getElem?_eq_some_iff.1 HA.out).1
  have KF := Lib.hid KF
  go_wp2_with fail
  have HSZ := Lib.hid (show (Tryz.prog.info? 5).map (·.size) = some 1 by kernel_rfl)
  have H3 := Lib.hid (show (cellsB p).length = n by rw [cellsB_len]; exact HN.out)
  have HR2 := Lib.hid (show w.drew.heap[g]? = some (.cells (cellsB l ++ tail).toArray 5 (0, 0)) from HR.out)
  have HPOS := Lib.hid (hposB (g := g) (w := w) (W := w.drew) (A := A) (l := l) (p := p) HP.out HL.out HN.out hfit rfl)
  have KF := Lib.hid (fun (w' : World) (G : w.drew.grownBy w' (some g)) => KF.out w.drew w' rfl G)
  go_region_law (refine step_copy_col rfl (.tmp 8) (.tmp 9) 22 22 rfl 5 Tryz.underlying22 HSZ.out (offA (some ⟨g, 0, none⟩) size l.length) A (size - l.length) (size - l.length) n c rfl rfl g l.length (cellsB l ++ tail) 5 HR2.out (cellsB p) n H3.out H1.out HPOS.out H2.out (oneB p) ?_; intro w' R2 G2; have K2 := Lib.hid (KF.out w' G2); have d1 := cell_of_row w' bu 0 _ _ _ K2.out.1; have d2 := cell_of_row w' ba 0 _ _ _ K2.out.2; have f1 := Joins.unfrozen_of_block K2.out.1 0)
  all_goals
    have hE := Lib.hid (col_end (p := p) bg bbu bba gu ga ua HL.out HN.out hfit R2.out K2.out.1 K2.out.2 G2 (Array.getElem?_eq_some_iff.1 HR.out).1)
    clear R2 G2 K2 KF HPOS HR2 HP HR HU HA H1 H2 H3
    go_wp2_with fail
    go_ret
    exact ⟨rfl, hE.out⟩

/-- What a collector has collected reads. -/
theorem Col.read {B g bu ba size : Nat} {l : List UInt8} {w : World} (h : Col B g bu ba size l w) : ByAt w.heap.size w (some ⟨g, 0, none⟩) size l := by
  obtain ⟨tail, hr, hl⟩ := h.row
  refine ⟨by omega, .inr ⟨g, 0, rfl, (Array.getElem?_eq_some_iff.1 hr).1, (Array.getElem?_eq_some_iff.1 hr).1, fun j hj => ?_⟩⟩
  rw [Nat.zero_add, cell_of_row w g j _ _ _ hr]
  simp only [List.getElem?_toArray]
  rw [List.getElem?_append_left (by rw [cellsB_len]; exact hj)]
  simp [cellsB, hj]
theorem Col.own {B g bu ba size : Nat} {l : List UInt8} {w : World} (h : Col B g bu ba size l w) (hs : size ≤ 1000000000) : w.ownsRow B 5 1 (.slice (some ⟨g, 0, none⟩) l.length size) l.length (flatL encB l) := by
  obtain ⟨tail, hr, hl⟩ := h.row
  have e : flatL encB l = cellsB l := flatB l
  refine ⟨by rw [e, cellsB_len, Nat.mul_one], .inr ⟨g, size, _, rfl, h.bg, hr, by omega, by unfold maxLen; omega, ?_, ?_⟩⟩
  · simp [cellsB_len]; omega
  · rw [e]
    simp [← cellsB_len l]
theorem put_at (B g bu ba size : Nat) (l p : List UInt8) (B' : Nat) (A : Option Addr) (c n m : Nat) (hn : p.length = n) (hm : l.length + n = m) (hfit : m ≤ size) (hsz : size ≤ 1000000000) (w : World) (hC : Col B g bu ba size l w) (hP : ByAt B' w A c p) :
    Calls Tryz.prog 122 #[.slice A n c, .pointer (some ⟨bu, 0, none⟩), .pointer (some ⟨ba, 0, none⟩)] w fun e w' =>
      e = .returned (.slice (some ⟨g, 0, none⟩) m size) ∧ Hid (Col B g bu ba size (l ++ p) w') ∧ Below B w w' := by
  subst hm
  exact put_any B g bu ba size l p B' A c n hn hfit hsz w hC hP
/-- One byte, laid for a call. -/
theorem byAt_one (w : World) (x : UInt8) (t : TypeId) : ByAt (w.heap.size + 1) (w.alloc (.cells #[.int .u8 (x.toNat : Int)] t)) (some ⟨w.heap.size, 0, none⟩) 1 [x] := by
  refine ⟨Nat.le_refl _, .inr ⟨w.heap.size, 0, rfl, by omega, by simp, fun j hj => ?_⟩⟩
  obtain rfl : j = 0 := by simpa using hj
  simp

set_option maxRecDepth 100000 in
set_option maxHeartbeats 1000000 in
theorem collector_any (size : Nat) (hs : size ≤ 1000000000) (w : World) :
    Calls Tryz.prog 113 #[.int .i64 (size : Int)] w fun e w' =>
      ∃ g bu ba, e = .returned (.func (Fn.func 122) #[] #[.pointer (some ⟨bu, 0, none⟩), .pointer (some ⟨ba, 0, none⟩)]) ∧ Col w.heap.size g bu ba size [] w' ∧ Below w.heap.size w w' := by
  obtain ⟨i0, hi, hz0, hz1, hz2⟩ := info_parts infoB
  have hmk : ∀ W : World, (Instr.makeSlice 22 (.int .i64 (size : Int)) (.int .i64 (size : Int))).run Tryz.prog W = .ok (.slice (some ⟨W.heap.size, 0, none⟩) size size) (W.alloc (.cells (madeCells (Value.int .u8 0).cells (size * 1)) 5)) := fun W => by
    have := run_make (P := Tryz.prog) W 22 5 i0 _ Tryz.underlying22 hi hz0 .i64 .i64 size size (by omega) (Int.le_refl _) (by rw [hz2]; omega) (by omega)
    rw [hz1] at this
    simpa using this
  clear hi hz0 hz1 hz2
  go_enter Tryz.func113, Tryz.ntmps113
  go_wp2_with fail
  go_ret
  have z1 : (w.alloc (.cells (madeCells #[Value.int .u8 0] size) 5)).heap.size = w.heap.size + 1 := World.size_alloc _ _
  have z2 : ((w.alloc (.cells (madeCells #[Value.int .u8 0] size) 5)).alloc (.cells #[.slice (some ⟨w.heap.size, 0, none⟩) size size] 22)).heap.size = w.heap.size + 1 + 1 := by rw [World.size_alloc, World.size_alloc]
  have r0 := heap_alloc_new w (.cells (madeCells #[Value.int .u8 0] size) 5)
  have r1 := heap_alloc_new (w.alloc (.cells (madeCells #[Value.int .u8 0] size) 5)) (.cells #[.slice (some ⟨w.heap.size, 0, none⟩) size size] 22)
  have r2 := heap_alloc_new ((w.alloc (.cells (madeCells #[Value.int .u8 0] size) 5)).alloc (.cells #[.slice (some ⟨w.heap.size, 0, none⟩) size size] 22)) (.cells #[.int .i64 0] 3)
  rw [z1] at r1
  rw [z2] at r2
  refine ⟨w.heap.size, _, _, rfl, ⟨Nat.le_refl _, by omega, by omega, by omega, by omega, by omega, ⟨(madeCells #[.int .u8 0] size).toList, ?_, ?_⟩, ?_, ?_⟩, ?_⟩
  · rw [Below.heap_alloc _ _ _ (by rw [z2]; omega), Below.heap_alloc _ _ _ (by rw [z1]; omega), r0]
    simp [cellsB]
  · have := size_madeCells #[Value.int .u8 0] (size * 1)
    simpa using this
  · exact r2
  · rw [Below.heap_alloc _ _ _ (by rw [z2]; omega), r1]
  · exact (((Below.refl _ w).alloc (Nat.le_refl _) _).alloc (by rw [z1]; omega) _).alloc (by rw [z2]; omega) _
theorem byAt_34 (w : World) : ByAt (w.heap.size + 1) (w.alloc (.cells #[.int .u8 34] 5)) (some ⟨w.heap.size, 0, none⟩) 1 [34] := byAt_one w 34 _
theorem byAt_92 (w : World) : ByAt (w.heap.size + 1) (w.alloc (.cells #[.int .u8 92] 5)) (some ⟨w.heap.size, 0, none⟩) 1 [92] := byAt_one w 92 _
end Go.Proofs.YtpoejnajnaolpaaGreatDoor

namespace Go.Proofs.YtpoejnajnaolpaaGreatDoor
open Go.RowKit
open Go.Lib hiding intOf

set_option maxRecDepth 100000 in
set_option maxHeartbeats 2000000 in
theorem literal_any (B : Nat) (A : Option Addr) (c : Nat) (l : List UInt8) (hl : l.length ≤ 1000000) (w : World) (henv : Env w) (hA : ByAt B w A c l) :
    Calls Tryz.prog 92 #[.slice A l.length c] w fun e w' => ∃ A' c', e = .returned (.slice A' (literalL l).length c') ∧ ByAt w'.heap.size w' A' c' (literalL l) ∧ Below w.heap.size w w' := by
  have D := Lib.hid (decimal_any l.length (by omega) w henv)
  have HA := Lib.hid hA.here
  have hcv : IntKind.u32.wrap (l.length : Int) = (l.length : Int) := by simp [IntKind.wrap, IntKind.bits, IntKind.signed]; omega
  have hdl := dec_len (u := l.length) (by omega)
  have HL := Lib.hid (show literalL l = (123 :: (decDigits l.length ++ [125, 13, 10])) ++ l from rfl)
  have HLL := Lib.hid (show (literalL l).length = 1 + (decDigits l.length).length + 3 + l.length by rw [HL.out]; simp; omega)
  clear henv hA
  generalize decDigits l.length = d at *
  generalize literalL l = L at *
  have CO := fun w1 => collector_any (1 + d.length + 3 + l.length) (by omega) w1
  rw [show ((1 + d.length + 3 + l.length : Nat) : Int) = 1 + (d.length : Int) + 3 + (l.length : Int) by omega] at CO
  obtain ⟨size, hsz⟩ : ∃ n, n = 1 + d.length + 3 + l.length := ⟨_, rfl⟩
  rw [← hsz] at CO HLL
  have CO := Lib.hid CO
  have hs1 : size ≤ 1 + d.length + 3 + l.length := by omega
  have hs2 : 1 + d.length + 3 + l.length ≤ size := by omega
  clear hsz
  go_enter Tryz.func92, Tryz.ntmps92
  go_wp2_with fail
  refine D.out.mono ?_
  rintro e w1 ⟨rfl, hb⟩
  clear D
  go_wp2_with fail
  refine (CO.out _).mono ?_
  rintro e w2 ⟨g, bu, ba, rfl, hC, h2⟩
  have hz := hb.size
  have hz2 := h2.size
  have hB2 := below_next hb h2
  clear CO hb h2
  obtain ⟨cap, w3, hcs, h3, hP, hcap, hw3, _⟩ := convB w2 (ByteArray.mk #[123] ++ ByteArray.mk d.toArray ++ ByteArray.mk #[125, 13, 10]) _ (headS_size d)
  rw [headS_list] at hP
  have hB3 := below_next hB2 h3
  have P1 := Lib.hid (put_at w1.heap.size g bu ba size [] (123 :: (d ++ [125, 13, 10])) _ _ cap (1 + d.length + 3) (1 + d.length + 3) (by simp; omega) (by simp) (by omega) (by omega) w3 (hC.below h3) hP)
  clear hC h3 hP hw3 hB2
  go_wp2_with fail
  refine P1.out.mono ?_
  rintro e w4 ⟨rfl, hC4, h4⟩
  have hB4 := hB3.trans (h4.mono hz)
  have P2 := Lib.hid (put_at w1.heap.size g bu ba size ([] ++ (123 :: (d ++ [125, 13, 10]))) l _ A c l.length size rfl (by simp; omega) (by omega) (by omega) w4 hC4.out (HA.out.below hB4))
  clear P1 h4 hB3 hcs hC4
  go_wp2_with fail
  refine P2.out.mono ?_
  rintro e w5 ⟨rfl, hC5, h5⟩
  have hB5 := hB4.trans (h5.mono hz)
  have HR := Lib.hid hC5.out.read
  rw [List.nil_append, ← HL.out] at HR
  go_wp2_with fail
  go_ret
  exact ⟨_, _, by rw [HLL.out]; rfl, HR.out, hB5⟩

end Go.Proofs.YtpoejnajnaolpaaGreatDoor
