import Derived.Shelf.Small.Bits
import Derived.Test.YtpgfnlhfciacoaaGreatDoorPGb
import Derived.Test.YtpgfnlhfciacoaaGreatDoorPKb
import Derived.Shelf.Strings.OnBuilder
set_option maxRecDepth 100000
set_option maxHeartbeats 2000000
open Go.Lib renaming hid → Hi
namespace Go.Proofs.YtpgfnlhfciacoaaGreatDoor
open Go.RowKit Go.Maps
section
open Go.Shelf
theorem infoF : (Tryz.prog.info? 23).map (fun i => (i.zero, i.size, i.bytes)) = some (some (.int .u8 0), 1, 1) := by kernel_rfl
def encFl (f : Nat) : List Value := [.int .u8 (f : Int)]
def eachK (f k : Nat) : List Nat := (ones.take k).filter fun o => f &&& o != 0
theorem eachK_len (f k : Nat) : (eachK f k).length ≤ 5 := Nat.le_trans (List.length_filter_le _ _) (by rw [List.length_take]; simp [ones]; omega)
theorem eachK_yes {f k o : Nat} (ho : ones[k]? = some o) (h : f &&& o ≠ 0) : eachK f (k + 1) = eachK f k ++ [o] := by
 unfold eachK
 rw [List.take_add_one, ho, List.filter_append]
 simp [h]
theorem eachK_no {f k o : Nat} (ho : ones[k]? = some o) (h : f &&& o = 0) : eachK f (k + 1) = eachK f k := by
 unfold eachK
 rw [List.take_add_one, ho, List.filter_append]
 simp [h]
theorem bit_no {f o : Nat} (hf : f < 256) (ho : o < 256) (h : f &&& o = 0) : (bits BinOp.and IntKind.u8 (f : Int) (o : Int) != 0) = false := by
 rw [u8_and_nat f o hf ho, h]; rfl
theorem bit_yes {f o : Nat} (hf : f < 256) (ho : o < 256) (h : f &&& o ≠ 0) : (bits BinOp.and IntKind.u8 (f : Int) (o : Int) != 0) = true := by
 rw [u8_and_nat f o hf ho]
 simp only [bne_iff_ne, ne_eq, Int.natCast_eq_zero]
 exact h
theorem each_any (f : Nat) (hf : f < 256) (w : World) :
 Calls Tryz.prog 192 #[.int .u8 f] w fun e w' => ∃ v, e = .returned v ∧ w'.ownsRow w.heap.size 23 1 v (eachL f).length (YF encFl (eachL f)) ∧ Below w.heap.size w w' := by
 obtain ⟨i0, hi, hz0, hz1, hz2⟩ := info_parts infoF
 have L8 := Hi (Any.bits_Len8 Tryz.lays126 31 w (by decide) (by decide))
 rw [show Lib.bitLen (31 : Int).toNat = 5 by decide] at L8
 go_enter Tryz.func192, Tryz.ntmps192
 go_wp2_with fail
 refine L8.out.mono ?_
 rintro e w1 ⟨rfl, rfl⟩
 go_wp2_with fail
 go_loopw [3, 7] (fun v i wr => ∃ k : Nat, k ≤ 5 ∧ i = .int .i64 k ∧ wr.ownsRow w1.heap.size 23 1 v (eachK f k).length (YF encFl (eachK f k)) ∧ Below w1.heap.size w1 wr) (fun _ i _ => 5 - (intOf i).toNat)
 case atStart => exact ⟨0, by omega, rfl, World.ownsRow_nil _ _ _ _, Below.refl _ _⟩
 case round =>
  obtain ⟨k, hk, rfl, hown, hb⟩ := hrel
  by_cases hlt : k < 5
  · have hk5 : k = 0 ∨ k = 1 ∨ k = 2 ∨ k = 3 ∨ k = 4 := by omega
    have hl := eachK_len f k
    clear hk hlt
    rcases hk5 with rfl | rfl | rfl | rfl | rfl
    · by_cases ht : f &&& 1 = 0
      · have hb1 : (bits BinOp.and IntKind.u8 (f : Int) 1 != 0) = false := bit_no (f := f) (o := 1) (by omega) (by decide) ht
        have HE := Hi (eachK_no (k := 0) (o := 1) rfl ht)
        generalize eachK f 0 = Q at *
        have HO := Hi hown
        clear hown ht
        go_wp2_with fail
        go_roundw
        case rel => exact ⟨1, by omega, rfl, by rw [HE.out]; exact HO.out, hb⟩
        case measure => simp [intOf]
      · have hb1 : (bits BinOp.and IntKind.u8 (f : Int) 1 != 0) = true := bit_yes (f := f) (o := 1) (by omega) (by decide) ht
        have HE := Hi (eachK_yes (k := 0) (o := 1) rfl ht)
        generalize eachK f 0 = Q at *
        have hs1 := hb.size
        obtain ⟨A', c', rfl⟩ := YV hown
        clear ht
        go_wp2_with (at_builtin; refine wpList_append_own _ rfl _ _ 207 rfl w1.heap.size 23 i0 _ 1 1 Tryz.underlying207 hi hz0 hz1 hz2 rfl (by decide) _ _ _ rfl (hown.alloc _) ⟨wr.heap.size, 0, none⟩ 1 1 [.int .u8 (1 : Int)] rfl rfl (cell_one_new _ _ _) (ints_oneCell .u8 [1]) (by unfold maxLen; omega) (by omega) (by simp; omega) ?_; intro v' w8 hown' hgrow _)
        have hbz := (hb.alloc hs1 (.cells #[.int .u8 1] 23)).grown hgrow (by simp; omega) (fun k hk => (hown.lt k hk).1)
        have HN := Hi hown'
        clear hown' hgrow hown
        go_wp2
        go_roundw
        case rel => exact ⟨1, by omega, rfl, by rw [HE.out]; simpa [YF, encFl] using HN.out, hbz⟩
        case measure => simp [intOf]
    · by_cases ht : f &&& 2 = 0
      · have hb1 : (bits BinOp.and IntKind.u8 (f : Int) 2 != 0) = false := bit_no (f := f) (o := 2) (by omega) (by decide) ht
        have HE := Hi (eachK_no (k := 1) (o := 2) rfl ht)
        generalize eachK f 1 = Q at *
        have HO := Hi hown
        clear hown ht
        go_wp2_with fail
        go_roundw
        case rel => exact ⟨2, by omega, rfl, by rw [HE.out]; exact HO.out, hb⟩
        case measure => simp [intOf]
      · have hb1 : (bits BinOp.and IntKind.u8 (f : Int) 2 != 0) = true := bit_yes (f := f) (o := 2) (by omega) (by decide) ht
        have HE := Hi (eachK_yes (k := 1) (o := 2) rfl ht)
        generalize eachK f 1 = Q at *
        have hs1 := hb.size
        obtain ⟨A', c', rfl⟩ := YV hown
        clear ht
        go_wp2_with (at_builtin; refine wpList_append_own _ rfl _ _ 207 rfl w1.heap.size 23 i0 _ 1 1 Tryz.underlying207 hi hz0 hz1 hz2 rfl (by decide) _ _ _ rfl (hown.alloc _) ⟨wr.heap.size, 0, none⟩ 1 1 [.int .u8 (2 : Int)] rfl rfl (cell_one_new _ _ _) (ints_oneCell .u8 [2]) (by unfold maxLen; omega) (by omega) (by simp; omega) ?_; intro v' w8 hown' hgrow _)
        have hbz := (hb.alloc hs1 (.cells #[.int .u8 2] 23)).grown hgrow (by simp; omega) (fun k hk => (hown.lt k hk).1)
        have HN := Hi hown'
        clear hown' hgrow hown
        go_wp2
        go_roundw
        case rel => exact ⟨2, by omega, rfl, by rw [HE.out]; simpa [YF, encFl] using HN.out, hbz⟩
        case measure => simp [intOf]
    · by_cases ht : f &&& 4 = 0
      · have hb1 : (bits BinOp.and IntKind.u8 (f : Int) 4 != 0) = false := bit_no (f := f) (o := 4) (by omega) (by decide) ht
        have HE := Hi (eachK_no (k := 2) (o := 4) rfl ht)
        generalize eachK f 2 = Q at *
        have HO := Hi hown
        clear hown ht
        go_wp2_with fail
        go_roundw
        case rel => exact ⟨3, by omega, rfl, by rw [HE.out]; exact HO.out, hb⟩
        case measure => simp [intOf]
      · have hb1 : (bits BinOp.and IntKind.u8 (f : Int) 4 != 0) = true := bit_yes (f := f) (o := 4) (by omega) (by decide) ht
        have HE := Hi (eachK_yes (k := 2) (o := 4) rfl ht)
        generalize eachK f 2 = Q at *
        have hs1 := hb.size
        obtain ⟨A', c', rfl⟩ := YV hown
        clear ht
        go_wp2_with (at_builtin; refine wpList_append_own _ rfl _ _ 207 rfl w1.heap.size 23 i0 _ 1 1 Tryz.underlying207 hi hz0 hz1 hz2 rfl (by decide) _ _ _ rfl (hown.alloc _) ⟨wr.heap.size, 0, none⟩ 1 1 [.int .u8 (4 : Int)] rfl rfl (cell_one_new _ _ _) (ints_oneCell .u8 [4]) (by unfold maxLen; omega) (by omega) (by simp; omega) ?_; intro v' w8 hown' hgrow _)
        have hbz := (hb.alloc hs1 (.cells #[.int .u8 4] 23)).grown hgrow (by simp; omega) (fun k hk => (hown.lt k hk).1)
        have HN := Hi hown'
        clear hown' hgrow hown
        go_wp2
        go_roundw
        case rel => exact ⟨3, by omega, rfl, by rw [HE.out]; simpa [YF, encFl] using HN.out, hbz⟩
        case measure => simp [intOf]
    · by_cases ht : f &&& 8 = 0
      · have hb1 : (bits BinOp.and IntKind.u8 (f : Int) 8 != 0) = false := bit_no (f := f) (o := 8) (by omega) (by decide) ht
        have HE := Hi (eachK_no (k := 3) (o := 8) rfl ht)
        generalize eachK f 3 = Q at *
        have HO := Hi hown
        clear hown ht
        go_wp2_with fail
        go_roundw
        case rel => exact ⟨4, by omega, rfl, by rw [HE.out]; exact HO.out, hb⟩
        case measure => simp [intOf]
      · have hb1 : (bits BinOp.and IntKind.u8 (f : Int) 8 != 0) = true := bit_yes (f := f) (o := 8) (by omega) (by decide) ht
        have HE := Hi (eachK_yes (k := 3) (o := 8) rfl ht)
        generalize eachK f 3 = Q at *
        have hs1 := hb.size
        obtain ⟨A', c', rfl⟩ := YV hown
        clear ht
        go_wp2_with (at_builtin; refine wpList_append_own _ rfl _ _ 207 rfl w1.heap.size 23 i0 _ 1 1 Tryz.underlying207 hi hz0 hz1 hz2 rfl (by decide) _ _ _ rfl (hown.alloc _) ⟨wr.heap.size, 0, none⟩ 1 1 [.int .u8 (8 : Int)] rfl rfl (cell_one_new _ _ _) (ints_oneCell .u8 [8]) (by unfold maxLen; omega) (by omega) (by simp; omega) ?_; intro v' w8 hown' hgrow _)
        have hbz := (hb.alloc hs1 (.cells #[.int .u8 8] 23)).grown hgrow (by simp; omega) (fun k hk => (hown.lt k hk).1)
        have HN := Hi hown'
        clear hown' hgrow hown
        go_wp2
        go_roundw
        case rel => exact ⟨4, by omega, rfl, by rw [HE.out]; simpa [YF, encFl] using HN.out, hbz⟩
        case measure => simp [intOf]
    · by_cases ht : f &&& 16 = 0
      · have hb1 : (bits BinOp.and IntKind.u8 (f : Int) 16 != 0) = false := bit_no (f := f) (o := 16) (by omega) (by decide) ht
        have HE := Hi (eachK_no (k := 4) (o := 16) rfl ht)
        generalize eachK f 4 = Q at *
        have HO := Hi hown
        clear hown ht
        go_wp2_with fail
        go_roundw
        case rel => exact ⟨5, by omega, rfl, by rw [HE.out]; exact HO.out, hb⟩
        case measure => simp [intOf]
      · have hb1 : (bits BinOp.and IntKind.u8 (f : Int) 16 != 0) = true := bit_yes (f := f) (o := 16) (by omega) (by decide) ht
        have HE := Hi (eachK_yes (k := 4) (o := 16) rfl ht)
        generalize eachK f 4 = Q at *
        have hs1 := hb.size
        obtain ⟨A', c', rfl⟩ := YV hown
        clear ht
        go_wp2_with (at_builtin; refine wpList_append_own _ rfl _ _ 207 rfl w1.heap.size 23 i0 _ 1 1 Tryz.underlying207 hi hz0 hz1 hz2 rfl (by decide) _ _ _ rfl (hown.alloc _) ⟨wr.heap.size, 0, none⟩ 1 1 [.int .u8 (16 : Int)] rfl rfl (cell_one_new _ _ _) (ints_oneCell .u8 [16]) (by unfold maxLen; omega) (by omega) (by simp; omega) ?_; intro v' w8 hown' hgrow _)
        have hbz := (hb.alloc hs1 (.cells #[.int .u8 16] 23)).grown hgrow (by simp; omega) (fun k hk => (hown.lt k hk).1)
        have HN := Hi hown'
        clear hown' hgrow hown
        go_wp2
        go_roundw
        case rel => exact ⟨5, by omega, rfl, by rw [HE.out]; simpa [YF, encFl] using HN.out, hbz⟩
        case measure => simp [intOf]
  · obtain rfl : k = 5 := by omega
    obtain ⟨A', c', rfl⟩ := YV hown
    have HO := Hi hown
    clear hown
    go_wp2_with fail
    go_ret
    exact ⟨_, rfl, HO.out, hb⟩
theorem encFl_len (x : Nat) : (encFl x).length = 1 := rfl
theorem map_ne_row {H : Type} {P : Program} {k : TypeId} {R : Value → Option (DataW H × List MemPlace)} {w : World} {b n : Nat} {D : DataW H} (hm : w.ownsMap P k R b n D) {base : Nat} {e : TypeId} {size m : Nat} {v : Value} {xs : List Value} (ho : w.ownsRow base e size v m xs) : some b ≠ v.ownBlock := by
 rcases ho.2 with ⟨rfl, _⟩ | ⟨g, cap, cur, rfl, _, hgb, _⟩
 · simp [Value.ownBlock]
 · intro e
   obtain rfl : b = g := by simpa [Value.ownBlock] using e
   obtain ⟨es, clock, hb, _⟩ := hm
   rw [hgb] at hb
   cases hb
theorem SlAt.oneF {w : World} {A : Option Addr} {l : List Nat} (h : SlAt encFl 1 w A l) {k : Nat} (hk : k < l.length) :
 ∃ b off, A = some ⟨b, off, none⟩ ∧ b < w.heap.size ∧ w.cell? ⟨b, off + k, none⟩ = some (.int .u8 (l[k] : Nat)) := by
 obtain ⟨b, off, rfl, hb, hc⟩ := h.at_ hk
 refine ⟨b, off, rfl, hb, ?_⟩
 have := hc 0 _ rfl
 simpa using this
theorem nm_str {x : Nat} {s : ByteArray} (h : nmD.atKey (.int .u8 (x : Int)) (.lit (.string [])) = .lit (.string s.data.toList)) : s = ⟨(YX x).toArray⟩ := by
 rw [show (DataW.lit (.string []) : DataW Unit) = strD [] from rfl, nm_name] at h
 unfold strD at h
 injection h with h
 injection h with h
 exact str_of h.symm
theorem sp_len : ∀ (xs : List Nat), (spL (xs.map YX)).length ≤ 10 * xs.length := by
 intro xs
 induction xs with
 | nil => simp [spL_nil]
 | cons x xs ih =>
   cases xs with
   | nil => rw [List.map_cons, List.map_nil, spL_one]; have := name_len x; simp; omega
   | cons y ys =>
     rw [List.map_cons, List.map_cons, spL_cons, ← List.map_cons]
     have := name_len x
     simp only [List.length_append, List.length_cons] at ih ⊢
     omega
theorem take_map (l : List Nat) (k : Nat) (h : k < l.length) : (l.take (k + 1)).map YX = (l.take k).map YX ++ [YX l[k]] := by
 rw [List.take_succ_eq_append_getElem h, List.map_append]; rfl
theorem flist_any (f : Nat) (hf : f < 256) (w : World) :
 Calls Tryz.prog 164 #[.int .u8 f] w fun e w' => e = .returned (.string ⟨(listL f).toArray⟩) ∧ Below w.heap.size w w' := by
 obtain ⟨i0, hi, hz0, hz1, hz2⟩ := info_parts infoS
 have N := Hi (names_any w)
 have E := Hi (fun w1 => each_any f hf w1)
 have hlE : (eachL f).length ≤ 5 := eachK_len f 5
 have HLL := Hi (show listL f = 40 :: (spL ((eachL f).map YX) ++ [41]) from rfl)
 have hones : ∀ x ∈ eachL f, x ∈ ones := fun x hx => eachL_ones hx
 generalize eachL f = l at *
 have HON := Hi hones
 clear hones
 go_enter Tryz.func164, Tryz.ntmps164
 go_wp2_with fail
 refine N.out.mono ?_
 rintro e w1 ⟨rfl, hm, hb1⟩
 have HM := Hi hm
 clear N hm
 go_wp2_with fail
 refine (E.out _).mono ?_
 rintro e w2 ⟨v2, rfl, hr, hb2⟩
 obtain ⟨A2, c2, rfl⟩ := YV hr
 have HR := Hi hr
 have HM2 := Hi (map_below HM.out hb2)
 have hb := YA hb1 hb2
 have hbw := hb.size
 clear hr HM hb1 hb2 E
 go_wp2_with fail
 go_loopw [4, 11] (fun v i wr => ∃ k : Nat, k ≤ l.length ∧ i = .int .i64 k ∧ wr.ownsRow w.heap.size 9 1 v ((l.take k).map YX).length (YF encS ((l.take k).map YX)) ∧
  wr.ownsRow w1.heap.size 23 1 (.slice A2 l.length c2) l.length (YF encFl l) ∧ wr.ownsMap Tryz.prog 23 (plainElem Tryz.prog 9) w.heap.size 5 nmD ∧ Below w.heap.size w wr)
  (fun _ i _ => l.length - (intOf i).toNat)
 case atStart => exact ⟨0, Nat.zero_le _, rfl, World.ownsRow_nil _ _ _ _, HR.out, HM2.out, hb⟩
 case round =>
  obtain ⟨k, hk, rfl, hrow, hfl, hmp, hB⟩ := hrel
  by_cases hlt : k < l.length
  · obtain ⟨b, off, rfl, hbl, hc0⟩ := (SlAt.of_own encFl_len hfl).oneF hlt
    have hx16 : l[k] ≤ 255 := by have := HON.out _ (List.getElem_mem hlt); rcases QG.1 this with e | e | e | e | e <;> omega
    have HT := Hi (take_map l k hlt)
    have HF := Hi hfl
    have HP := Hi hmp
    have hnl := name_len l[k]
    have hql : ((l.take k).map YX).length ≤ 5 := by rw [List.length_map, List.length_take]; omega
    have hsB := hB.size
    clear hfl hmp HR HM2 hb
    generalize l[k] = x at *
    generalize (l.take k).map YX = Q at *
    obtain ⟨A', c', rfl⟩ := YV hrow
    go_wp2_with (first
     | (at_lookup; refine wpList_lookup_own_string _ rfl _ _ 205 rfl 23 9 keyF Tryz.underlying205 Tryz.underlying9 (zeroS _) w.heap.size 5 _ rfl HP.out _ _ rfl (kF x hx16) ?_; intro s hat; obtain rfl := nm_str hat; clear hat)
     | (at_builtin; refine wpList_append_own _ rfl _ _ 127 rfl w.heap.size 9 i0 _ 1 16 Tryz.underlying127 hi hz0 hz1 hz2 rfl (by decide) _ _ _ rfl (hrow.alloc _) ⟨wr.heap.size, 0, none⟩ 1 1 (encS (YX x)) rfl rfl (cell_one_new _ _ _) (by intro u hu; simp [encS] at hu; subst hu; rfl) (by unfold maxLen; omega) (by omega) (by simp; omega) ?_; intro v' w8 hown' hgrow _))
    have hB8 := (hB.alloc hsB (.cells (encS (YX x)).toArray 9)).grown hgrow (by simp; omega) (fun k hk => (hrow.lt k hk).1)
    have HN := Hi hown'
    have HF8 := Hi ((YR.app hrow (T := 23) (by decide) hgrow).own HF.out)
    have HP8 := Hi ((HP.out.alloc _).kept hgrow (map_ne_row HP.out hrow))
    clear hown' hgrow hrow HF HP hc0
    go_wp2
    go_roundw
    case rel => exact ⟨k + 1, by omega, by go_num, by rw [HT.out]; simpa [YF, encS] using HN.out, HF8.out, HP8.out, hB8⟩
    case measure => simp [intOf]; omega
  · obtain rfl : k = l.length := by omega
    rw [List.take_length] at hrow
    have hls : (l.map YX).length = l.length := List.length_map _
    by_cases hnil : l = []
    · subst hnil
      obtain ⟨A', c', rfl⟩ := YV hrow
      have J := Hi (Any.strings_Join_none Tryz.lays156 Tryz.Builder_Extra_156 A' c' ⟨#[32]⟩ wr)
      clear hrow hfl hmp HR HM2 hls
      go_wp2_with fail
      refine J.out.mono ?_
      rintro e w3 ⟨rfl, rfl⟩
      go_wp2_with fail
      go_ret
      exact ⟨ret_str (by rw [HLL.out]; rfl), hB⟩
    · have hpos : 0 < l.length := List.length_pos_iff.2 hnil
      rw [hls] at hrow
      obtain ⟨xs, hxs⟩ : ∃ xs : List ByteArray, xs = l.map fun x => ByteArray.mk (YX x).toArray := ⟨_, rfl⟩
      have hxl : xs.length = l.length := by rw [hxs, List.length_map]
      have hxm : xs.map (fun x => x.data.toList) = l.map YX := by rw [hxs, List.map_map]; rfl
      have hspl : (spL (l.map YX)).length ≤ 50 := by
       have := sp_len l
       omega
      obtain ⟨g, cap, rfl, hg, hcap⟩ : ∃ g cap, u4 = .slice (some ⟨g, 0, none⟩) l.length cap ∧ g < wr.heap.size ∧ l.length ≤ cap := by
       rcases hrow.2 with ⟨rfl, h⟩ | ⟨g, cap, cur, rfl, h1, h2, h3, h4, h5, h6⟩
       · omega
       · exact ⟨g, cap, rfl, (Array.getElem?_eq_some_iff.1 h2).1, by first | exact h3 | exact h5 | omega⟩
      have J := Any.strings_Join Tryz.lays156 Tryz.Builder_Extra_156 g 0 cap xs ⟨#[32]⟩ wr (fun j x hx => by
       have h1 : (YF encS (l.map YX))[j]? = some (.string x) := by
        have h2 : (l.map YX)[j]? = some x.data.toList := by rw [← hxm, List.getElem?_map, hx]; rfl
        have := flatL_at encS_len (l.map YX) j _ h2 0 (.string x) (by simp [encS])
        simpa using this
       have := hrow.cells (g := g) rfl j _ h1
       rw [Addr.add_lit] at this
       exact this) hg (by omega) (by omega) (by rw [hxm]; show (spL (l.map YX)).length ≤ _; omega)
      rw [hxl, hxm] at J
      have HJ := Hi J
      have HS := Hi (show Lib.join (l.map YX) (ByteArray.mk #[32]).data.toList = spL (l.map YX) from rfl)
      rw [HS.out] at HJ
      generalize spL (l.map YX) = sp at *
      clear J hrow hfl hmp HR HM2 hls hxs hxl hxm HS
      go_wp2_with fail
      refine HJ.out.mono ?_
      rintro e w3 ⟨rfl, hb3⟩
      have hB3 := YA hB hb3
      go_wp2_with fail
      go_ret
      refine ⟨ret_str (str_of ?_), hB3⟩
      rw [HLL.out]
      simp [ByteArray.data_append]
end
def verbsA : Array Value := #[.string ⟨#[]⟩, .string ⟨#[78, 79, 79, 80]⟩, .string ⟨#[76, 79, 71, 79, 85, 84]⟩, .string ⟨#[67, 76, 79, 83, 69]⟩, .string ⟨#[69, 88, 80, 85, 78, 71, 69]⟩, .string ⟨#[83, 69, 76, 69, 67, 84]⟩, .string ⟨#[65, 80, 80, 69, 78, 68]⟩, .string ⟨#[70, 69, 84, 67, 72]⟩, .string ⟨#[83, 84, 79, 82, 69]⟩]
theorem verbsA_at (j : Nat) (hj : j < 9) : verbsA[j]? = some (.string ⟨(verbLs[j]'hj).toArray⟩) := by
 have h : j = 0 ∨ j = 1 ∨ j = 2 ∨ j = 3 ∨ j = 4 ∨ j = 5 ∨ j = 6 ∨ j = 7 ∨ j = 8 := by omega
 rcases h with rfl | rfl | rfl | rfl | rfl | rfl | rfl | rfl | rfl <;> rfl
theorem verbs_any (w : World) :
 Calls Tryz.prog 117 #[] w fun e w' => e = .returned (.slice (some ⟨w.heap.size, 0, none⟩) 9 9) ∧ w' = w.alloc (.cells verbsA 9) := by
 go_enter Tryz.func117, Tryz.ntmps117
 go_wp2
 go_ret
 exact ⟨rfl, rfl⟩
theorem verbs_cell (w : World) (j : Nat) (hj : j < 9) : (w.alloc (.cells verbsA 9)).cell? ⟨w.heap.size, j, none⟩ = some (.string ⟨(verbLs[j]'hj).toArray⟩) := by
 rw [cell_of_row _ w.heap.size j _ _ _ (YD w _)]
 exact verbsA_at j hj
theorem verbLs_at : ∀ n : Fin 9, verbLs[n.val]'n.isLt = verbZ (n.val : Int) := by decide
theorem verb_any (k : Int) (h1 : -9223372036854775808 ≤ k) (h2 : k ≤ 9223372036854775807) (w : World) :
 Calls Tryz.prog 81 #[.int .i64 k] w fun e w' => e = .returned (.string ⟨(verbZ k).toArray⟩) ∧ Below w.heap.size w w' := by
 have V := Hi (fun w1 => verbs_any w1)
 by_cases hlt : k < 0
 · have d1 : decide (k < 0) = true := by simpa using hlt
   have R := Hi (show verbZ k = [] by unfold verbZ; rw [if_neg (by omega)])
   clear hlt
   go_enter Tryz.func81, Tryz.ntmps81
   go_wp2_with fail
   refine (V.out _).mono ?_
   rintro e w1 ⟨rfl, rfl⟩
   go_wp2_with fail
   go_ret
   exact ⟨by rw [R.out]; rfl, YB _ _⟩
 · have d1 : decide (k < 0) = false := by simpa using hlt
   by_cases h9 : 9 ≤ k
   · have d2 : decide ((9 : Int) ≤ k) = true := by simpa using h9
     have R := Hi (show verbZ k = [] by unfold verbZ; rw [if_neg (by omega)])
     clear hlt
     go_enter Tryz.func81, Tryz.ntmps81
     go_wp2_with fail
     refine (V.out _).mono ?_
     rintro e w1 ⟨rfl, rfl⟩
     go_wp2_with fail
     go_ret
     exact ⟨by rw [R.out]; rfl, YB _ _⟩
   · obtain ⟨n, rfl⟩ : ∃ n : Nat, k = n := ⟨k.toNat, by omega⟩
     have hn : n < 9 := by omega
     have c0 := verbs_cell w n hn
     have R := Hi (show verbLs[n]'hn = verbZ (n : Int) from verbLs_at ⟨n, hn⟩)
     have d2 : decide ((9 : Int) ≤ (n : Int)) = false := by simp; omega
     generalize verbLs[n]'hn = y at *
     have HB := Hi (YB w (.cells verbsA 9))
     clear hlt h9 h1 h2
     generalize hw : w.alloc (.cells verbsA 9) = wA at *
     have HW := Hi hw
     clear hw
     go_enter Tryz.func81, Tryz.ntmps81
     go_wp2_with fail
     refine (V.out _).mono ?_
     rw [HW.out]
     rintro e w1 ⟨rfl, rfl⟩
     go_wp2_with fail
     go_ret
     exact ⟨by rw [R.out]; rfl, HB.out⟩
theorem sidx_found {ls : List (List UInt8)} {x : List UInt8} {k : Nat} (hk : k < ls.length) (hb : ∀ j, (h : j < ls.length) → j < k → ls[j] ≠ x) (he : ls[k] = x) : idxI ls x = k := by
 unfold idxI
 have hm : x ∈ ls := by rw [← he]; exact List.getElem_mem hk
 rw [if_pos hm]
 have h1 := List.idxOf_lt_length_of_mem hm
 have h2 : ls[ls.idxOf x] = x := List.getElem_idxOf h1
 have h3 : ¬ ls.idxOf x < k := fun h => hb _ h1 h h2
 have h4 : ¬ k < ls.idxOf x := fun h => by
  have := List.not_of_lt_findIdx (p := (· == x)) (xs := ls) h
  simp [he] at this
 omega
theorem sidx_none {ls : List (List UInt8)} {x : List UInt8} (hb : ∀ j, (h : j < ls.length) → ls[j] ≠ x) : idxI ls x = -1 := by
 unfold idxI
 rw [if_neg]
 intro hm
 obtain ⟨j, hj, he⟩ := List.getElem_of_mem hm
 exact hb j hj he
theorem sindex_any (b n : Nat) (ls : List (List UInt8)) (hn : ls.length = n) (hl : n ≤ 1000000) (x : List UInt8) (w : World) (hc : ∀ j, (h : j < ls.length) → w.cell? ⟨b, j, none⟩ = some (.string ⟨ls[j].toArray⟩)) :
 Calls Tryz.prog 116 #[.slice (some ⟨b, 0, none⟩) n n, .string ⟨x.toArray⟩] w fun e w' => e = .returned (.int .i64 (idxI ls x)) ∧ w = w' := by
 obtain ⟨q, hq⟩ : ∃ q, idxI ls x = q := ⟨_, rfl⟩
 rw [hq]
 have HQ := Hi hq
 have HC := Hi hc
 have HN := Hi hn
 clear hq hc hn
 go_enter Tryz.func116, Tryz.ntmps116
 go_wp2_with fail
 go_loop [8] (fun i => ∃ k : Nat, k ≤ n ∧ i = .int .i64 k ∧ Hid (∀ j, (h : j < ls.length) → j < k → ls[j] ≠ x)) (fun i => n - (intOf i).toNat)
 case atStart => exact ⟨0, Nat.zero_le _, rfl, Hi (fun j _ h => absurd h (Nat.not_lt_zero _))⟩
 case round =>
  obtain ⟨k, hk, rfl, hD⟩ := hrel
  by_cases hlt : k < n
  · have hkl : k < ls.length := by rw [HN.out]; exact hlt
    have c0 := HC.out k hkl
    obtain ⟨y, hy⟩ : ∃ y, ls[k] = y := ⟨_, rfl⟩
    rw [hy] at c0
    have HY := Hi hy
    clear hy
    by_cases he : x = y
    · have hb1 : (x == y) = true := by simpa using he
      have R := Hi (show (k : Int) = q by rw [← HQ.out, sidx_found hkl hD.out (HY.out.trans he.symm)])
      clear he
      go_wp2_with fail
      go_ret
      exact ⟨ret_int R.out, rfl⟩
    · have hb1 : (x == y) = false := by simpa using he
      have HE := Hi he
      clear he
      go_wp2_with fail
      go_round
      case rel => exact ⟨k + 1, by omega, by go_num, Hi (fun j hj hjk => by
       rcases Nat.lt_succ_iff_lt_or_eq.1 hjk with h | rfl
       · exact hD.out j hj h
       · exact fun e => HE.out (e.symm.trans HY.out))⟩
      case measure => simp [intOf]; omega
  · obtain rfl : k = n := by omega
    have R := Hi (show (-1 : Int) = q by rw [← HQ.out, sidx_none (fun j hj => hD.out j hj (by rw [← HN.out]; exact hj))])
    go_wp2_with fail
    go_ret
    exact ⟨ret_int R.out, rfl⟩
theorem kind_any (s : ByteArray) (hs : s.size ≤ 1000000000) (w : World) :
 Calls Tryz.prog 72 #[.string s] w fun e w' => e = .returned (.tuple #[.int .i64 (YC s.data.toList : Int), .bool (decide (0 < YC s.data.toList))]) ∧ Below w.heap.size w w' := by
 have V := Hi (fun w1 => verbs_any w1)
 have U := Hi (fun w1 => upper_any s hs w1)
 have K := Hi (idx_kind (upL s.data.toList))
 have hz := idx_kind (upL s.data.toList)
 have SI := Hi (fun (w1 : World) (hB : Below (w.alloc (.cells verbsA 9)).heap.size (w.alloc (.cells verbsA 9)) w1) => sindex_any w.heap.size 9 verbLs rfl (by decide) (upL s.data.toList) w1 (fun j hj => (hB.cell (p := ⟨w.heap.size, j, none⟩) (by simp)).trans (verbs_cell w j hj)))
 unfold YC
 have hk8 := kindU_le (upL s.data.toList)
 generalize QJ (upL s.data.toList) = kd at *
 generalize upL s.data.toList = y at *
 generalize idxI verbLs y = q at *
 clear K
 have HZ := Hi hz
 clear hz
 have HB0 := Hi (YB w (.cells verbsA 9))
 generalize hw : w.alloc (.cells verbsA 9) = wA at *
 have HW := Hi hw
 clear hw
 go_enter Tryz.func72, Tryz.ntmps72
 go_wp2_with fail
 refine (V.out _).mono ?_
 rw [HW.out]
 rintro e w1 ⟨rfl, rfl⟩
 go_wp2_with fail
 refine (U.out _).mono ?_
 rintro e w2 ⟨rfl, hb2⟩
 have HB2 := Hi hb2
 clear hb2
 go_wp2_with fail
 refine (SI.out _ HB2.out).mono ?_
 rintro e w3 ⟨rfl, rfl⟩
 go_wp2_with fail
 refine bodyPost_ret (v := .tuple #[.int .i64 (max q 0), .bool (decide (0 < max q 0))]) (by simp [results, Tryz.results72, go_sem]) rfl ⟨?_, YA HB0.out HB2.out⟩
 rw [HZ.out, show decide ((0 : Int) < (kd : Int)) = decide (0 < kd) by rw [decide_eq_decide]; omega]
def intD (f : Nat) : DataW Unit := .lit (.int .i64 (f : Int))
def itD : DataW Unit := (((((DataW.map []).put (.string (ZB 1)) (intD 1)).put (.string (ZB 2)) (intD 2)).put (.string (ZB 4)) (intD 4)).put (.string (ZB 8)) (intD 8)).put (.string (ZB 16)) (intD 16)
theorem it_at (l : List UInt8) (z : DataW Unit) : itD.atKey (.string l) z = if itemU l ≠ 0 then intD (itemU l) else z := by
 rcases itemU_is l with h | ⟨h, he⟩
 · rw [if_neg (by simpa using h)]
   have hn : ∀ f, f ∈ itms → Lit.string (ZB f) ≠ .string l := fun f hf e => by
    injection e with e
    rw [← e, itemU_name hf] at h
    subst h
    simp [itms] at hf
   unfold itD
   rw [atKey_put_other (hn 16 (by decide)).symm, atKey_put_other (hn 8 (by decide)).symm, atKey_put_other (hn 4 (by decide)).symm, atKey_put_other (hn 2 (by decide)).symm, atKey_put_other (hn 1 (by decide)).symm]
   rfl
 · generalize itemU l = f at *
   subst he
   rcases itms_mem.1 h with rfl | rfl | rfl | rfl | rfl <;> kernel_rfl
theorem it_has (l : List UInt8) : Maps.has itD (.string l) = decide (itemU l ≠ 0) := by
 by_cases h0 : itemU l = 0
 · rw [has_false_of_atKey (fun z => by rw [it_at, if_neg (by simpa using h0)])]
   simp [h0]
 · rw [has_true_of_atKey (fun z => by rw [it_at, if_pos h0])]
   simp [h0]
theorem eI (n : Nat) (h : n ≤ 255) : plainElem (H := Unit) Tryz.prog 3 (.int .i64 (n : Int)) = some (intD n, []) :=
 plainElem_int Tryz.underlying3 (by simp [Lit.wf, IntKind.min, IntKind.max, IntKind.signed, IntKind.bits]; omega)
theorem intD_inj {x : Int} {f : Nat} (h : (DataW.lit (.int .i64 x) : DataW Unit) = intD f) : x = (f : Int) := by
 unfold intD at h
 injection h with h
 injection h
theorem zeroI (w : World) : (zeroValue 3).run Tryz.prog w = .ok (.int .i64 0) w := by kernel_rfl
theorem items_any (w : World) :
 Calls Tryz.prog 207 #[] w fun e w' => e = .returned (.map (some w.heap.size)) ∧ w'.ownsMap Tryz.prog 9 (plainElem Tryz.prog 3) w.heap.size 5 itD ∧ Below w.heap.size w w' := by
 have hmm := @run_makeMap Tryz.prog
 have hown := World.ownsMap_made (H := Unit) w Tryz.prog 9 (plainElem Tryz.prog 3)
 have hb : Below w.heap.size w (w.alloc (.map #[] 0)) := (Below.refl _ _).alloc (Nat.le_refl _) _
 have HO := Hi hown
 clear hown
 go_enter Tryz.func207, Tryz.ntmps207
 go_wp2_with (first
  | (refine YJ (H := Unit) _ rfl _ (.const (.string ⟨(ZB 1).toArray⟩)) _ 199 rfl 9 3 keyS Tryz.underlying199 (plainElem Tryz.prog 3) w.heap.size 0 _ rfl HO.out (by decide) (.string ⟨(ZB 1).toArray⟩) _ (.string (ZB 1)) rfl rfl (kS (ZB 1) (by decide)) _ [] (eI 1 (by decide)) ?_; intro w1 ho1 hg1; have HO1 := Hi ho1; have hb1 := hb.grown hg1 (by simp) (fun j hj => by cases hj; exact Nat.le_refl _); clear ho1 hg1)
  | (refine YJ (H := Unit) _ rfl _ (.const (.string ⟨(ZB 2).toArray⟩)) _ 199 rfl 9 3 keyS Tryz.underlying199 (plainElem Tryz.prog 3) w.heap.size 1 _ rfl HO1.out (by decide) (.string ⟨(ZB 2).toArray⟩) _ (.string (ZB 2)) rfl rfl (kS (ZB 2) (by decide)) _ [] (eI 2 (by decide)) ?_; intro w2 ho2 hg2; have HO2 := Hi ho2; have hb2 := hb1.grown hg2 hb1.size (fun j hj => by cases hj; exact Nat.le_refl _); clear ho2 hg2)
  | (refine YJ (H := Unit) _ rfl _ (.const (.string ⟨(ZB 4).toArray⟩)) _ 199 rfl 9 3 keyS Tryz.underlying199 (plainElem Tryz.prog 3) w.heap.size 2 _ rfl HO2.out (by decide) (.string ⟨(ZB 4).toArray⟩) _ (.string (ZB 4)) rfl rfl (kS (ZB 4) (by decide)) _ [] (eI 4 (by decide)) ?_; intro w3 ho3 hg3; have HO3 := Hi ho3; have hb3 := hb2.grown hg3 hb2.size (fun j hj => by cases hj; exact Nat.le_refl _); clear ho3 hg3)
  | (refine YJ (H := Unit) _ rfl _ (.const (.string ⟨(ZB 8).toArray⟩)) _ 199 rfl 9 3 keyS Tryz.underlying199 (plainElem Tryz.prog 3) w.heap.size 3 _ rfl HO3.out (by decide) (.string ⟨(ZB 8).toArray⟩) _ (.string (ZB 8)) rfl rfl (kS (ZB 8) (by decide)) _ [] (eI 8 (by decide)) ?_; intro w4 ho4 hg4; have HO4 := Hi ho4; have hb4 := hb3.grown hg4 hb3.size (fun j hj => by cases hj; exact Nat.le_refl _); clear ho4 hg4)
  | (refine YJ (H := Unit) _ rfl _ (.const (.string ⟨(ZB 16).toArray⟩)) _ 199 rfl 9 3 keyS Tryz.underlying199 (plainElem Tryz.prog 3) w.heap.size 4 _ rfl HO4.out (by decide) (.string ⟨(ZB 16).toArray⟩) _ (.string (ZB 16)) rfl rfl (kS (ZB 16) (by decide)) _ [] (eI 16 (by decide)) ?_; intro w5 ho5 hg5; have HO5 := Hi ho5; have hb5 := hb4.grown hg5 hb4.size (fun j hj => by cases hj; exact Nat.le_refl _); clear ho5 hg5))
 go_ret
 exact ⟨rfl, HO5.out, hb5⟩
theorem look_item {w : World} {b : Nat} (hown : w.ownsMap Tryz.prog 9 (plainElem Tryz.prog 3) b 5 itD) (u : List UInt8) (hu : u.length ≤ 1000000000) :
 (Instr.lookup 199 (.map (some b)) (.string ⟨u.toArray⟩) true).run Tryz.prog w = .ok (.tuple #[.int .i64 (itemU u : Nat), .bool (decide (itemU u ≠ 0))]) w := by
 obtain ⟨v, ps, hrun, hv⟩ := hown.look_ok keyS Tryz.underlying199 (zeroI w) (eI 0 (by decide)) (kS u hu)
 rw [it_at] at hv
 obtain ⟨x, rfl, hx, _⟩ := plainElem_int_inv Tryz.underlying3 hv
 simp only [Prod.mk.injEq] at hx
 have hv2 : x = (itemU u : Int) := by
  have h1 := hx.1
  clear hrun hv hx hown
  generalize itemU u = f at *
  by_cases h0 : f = 0
  · rw [if_neg (by simpa using h0)] at h1
    rw [h0]
    exact intD_inj h1.symm
  · rw [if_pos h0] at h1
    exact intD_inj h1.symm
 subst hv2
 rw [hrun, it_has]
theorem item_any (s : ByteArray) (hs : s.size ≤ 1000000000) (w : World) :
 Calls Tryz.prog 183 #[.string s] w fun e w' => e = .returned (.tuple #[.int .i64 (itemL s.data.toList : Nat), .bool (decide (itemL s.data.toList ≠ 0))]) ∧ Below w.heap.size w w' := by
 have V := Hi (fun w1 => items_any w1)
 have U := Hi (fun w1 => upper_any s hs w1)
 have hlen : (upL s.data.toList).length ≤ 1000000000 := by rw [upL_length, Array.length_toList]; exact hs
 have LK := Hi (fun (W : World) (h : W.ownsMap Tryz.prog 9 (plainElem Tryz.prog 3) w.heap.size 5 itD) => look_item h (upL s.data.toList) hlen)
 unfold itemL
 generalize itemU (upL s.data.toList) = kd at *
 generalize upL s.data.toList = y at *
 generalize decide (kd ≠ 0) = q at *
 go_enter Tryz.func183, Tryz.ntmps183
 go_wp2_with fail
 refine (V.out _).mono ?_
 rintro e w1 ⟨rfl, ho, hb1⟩
 have HO := Hi ho
 have HB1 := Hi hb1
 clear ho hb1
 go_wp2_with fail
 refine (U.out _).mono ?_
 rintro e w2 ⟨rfl, hb2⟩
 have HB2 := Hi (YA HB1.out hb2)
 have lk := LK.out w2 (HO.out.kept (row := none) (YE hb2) (by simp))
 clear hb2
 go_wp2_with fail
 refine bodyPost_ret (v := .tuple #[.int .i64 (kd : Int), .bool q]) (by simp [results, Tryz.results183, go_sem]) rfl ⟨rfl, HB2.out⟩
end Go.Proofs.YtpgfnlhfciacoaaGreatDoor
