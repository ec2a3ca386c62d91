/- The reference's List. -/
import Derived.Test.YtchlmmglibladaaDoorFlagName
import Derived.Test.YtchlmmglibladaaDoorFlagLMath
import Derived.Test.YtchlmmglibladaaDoorFlagEach
namespace Go.Proofs.YtchlmmglibladaaDoor
open Go.RowKit Go.Maps

/-- What is written behind k flags. -/
def spK (f k : Nat) : List UInt8 := spL ((eachK f k).map nameF)
theorem spK_no {f k o : Nat} (ho : ones[k]? = some o) (h : f &&& o = 0) : spK f (k + 1) = spK f k := by unfold spK; rw [eachK_no ho h]
theorem spK_yes {f k o : Nat} (ho : ones[k]? = some o) (h : f &&& o ≠ 0) : spK f (k + 1) = if spK f k = [] then nameF o else spK f k ++ 32 :: nameF o := by
  have hn : ∀ x ∈ eachK f k, x ∈ ones := fun x hx => List.take_subset _ _ (List.mem_filter.1 hx).1
  unfold spK
  rw [eachK_yes ho h, List.map_append]
  by_cases he : eachK f k = []
  · rw [he]
    exact spL_one _
  · have hne : (eachK f k).map nameF ≠ [] := by simpa using he
    rw [if_neg, List.map_cons, List.map_nil, spL_snoc hne]
    intro e
    cases hx : eachK f k with
    | nil => exact he hx
    | cons a r =>
      rw [hx, List.map_cons] at e
      unfold spL at e
      rw [Lib.join_cons] at e
      have := List.append_eq_nil_iff.1 e
      exact name_ne (hn a (by rw [hx]; simp)) this.1
theorem spK_len (f k : Nat) : (spK f k).length ≤ 50 := by
  have h : ∀ (xs : List Nat), (spL (xs.map nameF)).length ≤ 10 * xs.length := by
    intro xs
    induction xs with
    | nil => simp [spL_nil]
    | cons x xs ih =>
      cases xs with
      | nil => rw [List.map_cons, List.map_nil, spL_one]; have := name_len x; simp; omega
      | cons y ys =>
        rw [List.map_cons, List.map_cons, spL_cons, ← List.map_cons]
        have := name_len x
        simp only [List.length_append, List.length_cons] at ih ⊢
        omega
  have h1 := h (eachK f k)
  have h2 := eachK_len f k
  unfold spK
  omega

set_option maxRecDepth 100000 in
set_option maxHeartbeats 4000000 in
theorem refList_any (f : Nat) (hf : f < 256) (w : World) :
    Calls Tryd.prog 16 #[.int .i64 f] w fun e w' => e = .returned (.string ⟨(listL f).toArray⟩) ∧ w = w' := by
  have NM := Lib.hid (fun n w1 => refName_any n w1)
  go_enter Tryd.func16, Tryd.ntmps16
  go_wp2_with fail
  go_loop [3, 4] (fun t i => ∃ (k : Nat) (T : ByteArray), k ≤ 5 ∧ i = .int .i64 (2 ^ k : Nat) ∧ t = .string T ∧ T.size ≤ 50 ∧ Hid (T.data.toList = spK f k)) (fun _ i => 32 - (intOf i).toNat)
  case atStart => exact ⟨0, ⟨#[]⟩, by omega, rfl, rfl, by decide, Lib.hid rfl⟩
  case round =>
    obtain ⟨k, T, hk, rfl, rfl, hT, HT⟩ := hrel
    have hk5 : k = 0 ∨ k = 1 ∨ k = 2 ∨ k = 3 ∨ k = 4 ∨ k = 5 := by omega
    rcases hk5 with rfl | rfl | rfl | rfl | rfl | rfl
    · by_cases ht : f &&& 1 = 0
      · have hb1 : (bits BinOp.and IntKind.i64 (f : Int) 1 == 0) = true := bit64_yes (o := 1) hf (by decide) ht
        have HS := Lib.hid (spK_no (k := 0) (o := 1) rfl ht)
        clear ht hk
        go_wp2_with fail
        go_round
        case rel => exact ⟨1, T, by omega, rfl, rfl, hT, Lib.hid (by rw [HT.out, HS.out])⟩
        case measure => simp [intOf]
      · have hb1 : (bits BinOp.and IntKind.i64 (f : Int) 1 == 0) = false := bit64_no (o := 1) hf (by decide) ht
        have HS := Lib.hid (spK_yes (k := 0) (o := 1) rfl ht)
        have hl := spK_len f 1
        have hl0 := spK_len f 0
        clear ht hk
        by_cases he : T.data.toList = []
        · have hS := Lib.hid (show spK f 1 = nameF 1 by rw [HS.out, ← HT.out, if_pos he])
          obtain rfl := str_of he
          clear he HS HT
          go_wp2_with fail
          refine (NM.out 1 _).mono ?_
          rintro e w1 ⟨rfl, rfl⟩
          go_wp2_with fail
          go_round
          case rel => exact ⟨1, _, by omega, rfl, rfl, by decide, Lib.hid (by rw [hS.out]; rfl)⟩
          case measure => simp [intOf]
        · have hS := Lib.hid (show spK f 1 = T.data.toList ++ 32 :: nameF 1 by rw [HS.out, ← HT.out, if_neg he])
          have hz : (T ++ ByteArray.mk #[32] ++ ByteArray.mk (nameF 1).toArray).size ≤ 50 := by
            rw [hS.out] at hl
            simp only [List.length_append, List.length_cons] at hl
            simp only [ByteArray.size_append]
            show T.size + 1 + (nameF 1).toArray.size ≤ 50
            simp only [List.size_toArray]
            rw [Array.length_toList] at hl
            have : T.data.size = T.size := rfl
            omega
          have HZ := Lib.hid hz
          have hnl := name_len 1
          have h1 : T.toList.isEmpty = false := by rw [btl]; simpa using he
          have h2 : ¬ T.toList = [] := by rw [btl]; exact he
          clear he HS HT hz hl hl0
          go_wp2_with fail
          refine (NM.out 1 _).mono ?_
          rintro e w1 ⟨rfl, rfl⟩
          go_wp2_with fail
          go_round
          case rel => exact ⟨1, _, by omega, rfl, rfl, HZ.out, Lib.hid (by rw [hS.out]; simp [ByteArray.data_append])⟩
          case measure => simp [intOf]
    · by_cases ht : f &&& 2 = 0
      · have hb1 : (bits BinOp.and IntKind.i64 (f : Int) 2 == 0) = true := bit64_yes (o := 2) hf (by decide) ht
        have HS := Lib.hid (spK_no (k := 1) (o := 2) rfl ht)
        clear ht hk
        go_wp2_with fail
        go_round
        case rel => exact ⟨2, T, by omega, rfl, rfl, hT, Lib.hid (by rw [HT.out, HS.out])⟩
        case measure => simp [intOf]
      · have hb1 : (bits BinOp.and IntKind.i64 (f : Int) 2 == 0) = false := bit64_no (o := 2) hf (by decide) ht
        have HS := Lib.hid (spK_yes (k := 1) (o := 2) rfl ht)
        have hl := spK_len f 2
        have hl0 := spK_len f 1
        clear ht hk
        by_cases he : T.data.toList = []
        · have hS := Lib.hid (show spK f 2 = nameF 2 by rw [HS.out, ← HT.out, if_pos he])
          obtain rfl := str_of he
          clear he HS HT
          go_wp2_with fail
          refine (NM.out 2 _).mono ?_
          rintro e w1 ⟨rfl, rfl⟩
          go_wp2_with fail
          go_round
          case rel => exact ⟨2, _, by omega, rfl, rfl, by decide, Lib.hid (by rw [hS.out]; rfl)⟩
          case measure => simp [intOf]
        · have hS := Lib.hid (show spK f 2 = T.data.toList ++ 32 :: nameF 2 by rw [HS.out, ← HT.out, if_neg he])
          have hz : (T ++ ByteArray.mk #[32] ++ ByteArray.mk (nameF 2).toArray).size ≤ 50 := by
            rw [hS.out] at hl
            simp only [List.length_append, List.length_cons] at hl
            simp only [ByteArray.size_append]
            show T.size + 1 + (nameF 2).toArray.size ≤ 50
            simp only [List.size_toArray]
            rw [Array.length_toList] at hl
            have : T.data.size = T.size := rfl
            omega
          have HZ := Lib.hid hz
          have hnl := name_len 2
          have h1 : T.toList.isEmpty = false := by rw [btl]; simpa using he
          have h2 : ¬ T.toList = [] := by rw [btl]; exact he
          clear he HS HT hz hl hl0
          go_wp2_with fail
          refine (NM.out 2 _).mono ?_
          rintro e w1 ⟨rfl, rfl⟩
          go_wp2_with fail
          go_round
          case rel => exact ⟨2, _, by omega, rfl, rfl, HZ.out, Lib.hid (by rw [hS.out]; simp [ByteArray.data_append])⟩
          case measure => simp [intOf]
    · by_cases ht : f &&& 4 = 0
      · have hb1 : (bits BinOp.and IntKind.i64 (f : Int) 4 == 0) = true := bit64_yes (o := 4) hf (by decide) ht
        have HS := Lib.hid (spK_no (k := 2) (o := 4) rfl ht)
        clear ht hk
        go_wp2_with fail
        go_round
        case rel => exact ⟨3, T, by omega, rfl, rfl, hT, Lib.hid (by rw [HT.out, HS.out])⟩
        case measure => simp [intOf]
      · have hb1 : (bits BinOp.and IntKind.i64 (f : Int) 4 == 0) = false := bit64_no (o := 4) hf (by decide) ht
        have HS := Lib.hid (spK_yes (k := 2) (o := 4) rfl ht)
        have hl := spK_len f 3
        have hl0 := spK_len f 2
        clear ht hk
        by_cases he : T.data.toList = []
        · have hS := Lib.hid (show spK f 3 = nameF 4 by rw [HS.out, ← HT.out, if_pos he])
          obtain rfl := str_of he
          clear he HS HT
          go_wp2_with fail
          refine (NM.out 4 _).mono ?_
          rintro e w1 ⟨rfl, rfl⟩
          go_wp2_with fail
          go_round
          case rel => exact ⟨3, _, by omega, rfl, rfl, by decide, Lib.hid (by rw [hS.out]; rfl)⟩
          case measure => simp [intOf]
        · have hS := Lib.hid (show spK f 3 = T.data.toList ++ 32 :: nameF 4 by rw [HS.out, ← HT.out, if_neg he])
          have hz : (T ++ ByteArray.mk #[32] ++ ByteArray.mk (nameF 4).toArray).size ≤ 50 := by
            rw [hS.out] at hl
            simp only [List.length_append, List.length_cons] at hl
            simp only [ByteArray.size_append]
            show T.size + 1 + (nameF 4).toArray.size ≤ 50
            simp only [List.size_toArray]
            rw [Array.length_toList] at hl
            have : T.data.size = T.size := rfl
            omega
          have HZ := Lib.hid hz
          have hnl := name_len 4
          have h1 : T.toList.isEmpty = false := by rw [btl]; simpa using he
          have h2 : ¬ T.toList = [] := by rw [btl]; exact he
          clear he HS HT hz hl hl0
          go_wp2_with fail
          refine (NM.out 4 _).mono ?_
          rintro e w1 ⟨rfl, rfl⟩
          go_wp2_with fail
          go_round
          case rel => exact ⟨3, _, by omega, rfl, rfl, HZ.out, Lib.hid (by rw [hS.out]; simp [ByteArray.data_append])⟩
          case measure => simp [intOf]
    · by_cases ht : f &&& 8 = 0
      · have hb1 : (bits BinOp.and IntKind.i64 (f : Int) 8 == 0) = true := bit64_yes (o := 8) hf (by decide) ht
        have HS := Lib.hid (spK_no (k := 3) (o := 8) rfl ht)
        clear ht hk
        go_wp2_with fail
        go_round
        case rel => exact ⟨4, T, by omega, rfl, rfl, hT, Lib.hid (by rw [HT.out, HS.out])⟩
        case measure => simp [intOf]
      · have hb1 : (bits BinOp.and IntKind.i64 (f : Int) 8 == 0) = false := bit64_no (o := 8) hf (by decide) ht
        have HS := Lib.hid (spK_yes (k := 3) (o := 8) rfl ht)
        have hl := spK_len f 4
        have hl0 := spK_len f 3
        clear ht hk
        by_cases he : T.data.toList = []
        · have hS := Lib.hid (show spK f 4 = nameF 8 by rw [HS.out, ← HT.out, if_pos he])
          obtain rfl := str_of he
          clear he HS HT
          go_wp2_with fail
          refine (NM.out 8 _).mono ?_
          rintro e w1 ⟨rfl, rfl⟩
          go_wp2_with fail
          go_round
          case rel => exact ⟨4, _, by omega, rfl, rfl, by decide, Lib.hid (by rw [hS.out]; rfl)⟩
          case measure => simp [intOf]
        · have hS := Lib.hid (show spK f 4 = T.data.toList ++ 32 :: nameF 8 by rw [HS.out, ← HT.out, if_neg he])
          have hz : (T ++ ByteArray.mk #[32] ++ ByteArray.mk (nameF 8).toArray).size ≤ 50 := by
            rw [hS.out] at hl
            simp only [List.length_append, List.length_cons] at hl
            simp only [ByteArray.size_append]
            show T.size + 1 + (nameF 8).toArray.size ≤ 50
            simp only [List.size_toArray]
            rw [Array.length_toList] at hl
            have : T.data.size = T.size := rfl
            omega
          have HZ := Lib.hid hz
          have hnl := name_len 8
          have h1 : T.toList.isEmpty = false := by rw [btl]; simpa using he
          have h2 : ¬ T.toList = [] := by rw [btl]; exact he
          clear he HS HT hz hl hl0
          go_wp2_with fail
          refine (NM.out 8 _).mono ?_
          rintro e w1 ⟨rfl, rfl⟩
          go_wp2_with fail
          go_round
          case rel => exact ⟨4, _, by omega, rfl, rfl, HZ.out, Lib.hid (by rw [hS.out]; simp [ByteArray.data_append])⟩
          case measure => simp [intOf]
    · by_cases ht : f &&& 16 = 0
      · have hb1 : (bits BinOp.and IntKind.i64 (f : Int) 16 == 0) = true := bit64_yes (o := 16) hf (by decide) ht
        have HS := Lib.hid (spK_no (k := 4) (o := 16) rfl ht)
        clear ht hk
        go_wp2_with fail
        go_round
        case rel => exact ⟨5, T, by omega, rfl, rfl, hT, Lib.hid (by rw [HT.out, HS.out])⟩
        case measure => simp [intOf]
      · have hb1 : (bits BinOp.and IntKind.i64 (f : Int) 16 == 0) = false := bit64_no (o := 16) hf (by decide) ht
        have HS := Lib.hid (spK_yes (k := 4) (o := 16) rfl ht)
        have hl := spK_len f 5
        have hl0 := spK_len f 4
        clear ht hk
        by_cases he : T.data.toList = []
        · have hS := Lib.hid (show spK f 5 = nameF 16 by rw [HS.out, ← HT.out, if_pos he])
          obtain rfl := str_of he
          clear he HS HT
          go_wp2_with fail
          refine (NM.out 16 _).mono ?_
          rintro e w1 ⟨rfl, rfl⟩
          go_wp2_with fail
          go_round
          case rel => exact ⟨5, _, by omega, rfl, rfl, by decide, Lib.hid (by rw [hS.out]; rfl)⟩
          case measure => simp [intOf]
        · have hS := Lib.hid (show spK f 5 = T.data.toList ++ 32 :: nameF 16 by rw [HS.out, ← HT.out, if_neg he])
          have hz : (T ++ ByteArray.mk #[32] ++ ByteArray.mk (nameF 16).toArray).size ≤ 50 := by
            rw [hS.out] at hl
            simp only [List.length_append, List.length_cons] at hl
            simp only [ByteArray.size_append]
            show T.size + 1 + (nameF 16).toArray.size ≤ 50
            simp only [List.size_toArray]
            rw [Array.length_toList] at hl
            have : T.data.size = T.size := rfl
            omega
          have HZ := Lib.hid hz
          have hnl := name_len 16
          have h1 : T.toList.isEmpty = false := by rw [btl]; simpa using he
          have h2 : ¬ T.toList = [] := by rw [btl]; exact he
          clear he HS HT hz hl hl0
          go_wp2_with fail
          refine (NM.out 16 _).mono ?_
          rintro e w1 ⟨rfl, rfl⟩
          go_wp2_with fail
          go_round
          case rel => exact ⟨5, _, by omega, rfl, rfl, HZ.out, Lib.hid (by rw [hS.out]; simp [ByteArray.data_append])⟩
          case measure => simp [intOf]
    · have HE := Lib.hid (show T.data.toList = spL ((eachL f).map nameF) from HT.out)
      clear HT hk
      go_wp2_with fail
      go_ret
      refine ⟨ret_str (str_of ?_), rfl⟩
      simp only [ByteArray.data_append, Array.toList_append, HE.out]
      rfl
end Go.Proofs.YtchlmmglibladaaDoor
