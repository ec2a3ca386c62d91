/- The walk of the law FlagOrder. -/
import Derived.Test.YtchlmmglibladaaDoorAlive3
import Derived.Test.YtchlmmglibladaaDoorFlagOMath
namespace Go.Proofs.YtchlmmglibladaaDoor
open Go.RowKit

set_option maxRecDepth 100000 in
set_option maxHeartbeats 2000000 in
theorem flagOrder_any (f : Nat) (hf : f ≤ 255) (k : Nat) (hk : k ≤ 255) (w : World) :
    Calls Tryd.prog 8 #[.int .u8 f, .int .u8 k] w fun e w' => e = .returned (.bool true) ∧ Below w.heap.size w w' := by
  have L := Lib.hid (fun w1 => alive3_any w1)
  have E := Lib.hid (each_any f (by omega) w)
  have RN := Lib.hid (fun n w1 => refName_any n w1)
  have hlE := each_len f
  have HON := Lib.hid (show ∀ x ∈ eachL f, x ∈ ones from fun x hx => eachL_ones hx)
  have HP := Lib.hid (parse_ord f k (by omega))
  have e1 : bits BinOp.and IntKind.u8 (f : Int) 31 = ((f &&& 31 : Nat) : Int) := u8_and_nat f 31 (by omega) (by omega)
  have P := Lib.hid (fun s hs w1 => fparse_any s hs w1)
  generalize eachL f = l at *
  go_enter Tryd.func8, Tryd.ntmps8
  go_wp2_with fail
  refine E.out.mono ?_
  rintro e w1 ⟨v, rfl, hr, hb⟩
  obtain ⟨A, c, rfl⟩ := own_any hr
  have hS := Lib.hid (SlAt.of_own encF_len hr)
  clear hr E
  go_wp2_with fail
  go_loop [6, 15] (fun t i => ∃ (j : Nat) (T : ByteArray), j ≤ l.length ∧ i = .int .i64 j ∧ t = .string T ∧ T.size ≤ 1 + 20 * j ∧ Hid (T.data.toList = 40 :: ordL l k j)) (fun _ i => l.length - (intOf i).toNat)
  case atStart => exact ⟨0, ⟨#[40]⟩, Nat.zero_le _, rfl, rfl, by decide, Lib.hid rfl⟩
  case round =>
    obtain ⟨j, T, hj, rfl, rfl, hT, HT⟩ := hrel
    by_cases hlt : j < l.length
    · have hm : (j + k) % l.length < l.length := Nat.mod_lt _ (by omega)
      obtain ⟨b, off, rfl, hbl, hc0⟩ := hS.out.oneF hm
      have hgd : l.getD ((j + k) % l.length) 0 = l[(j + k) % l.length] := by rw [List.getD_eq_getElem?_getD, List.getElem?_eq_getElem hm]; rfl
      have ho := HON.out _ (List.getElem_mem hm)
      have hx16 : l[(j + k) % l.length] ≤ 255 := by rcases ones_mem.1 ho with e | e | e | e | e <;> omega
      have hnl := name_len l[(j + k) % l.length]
      have hi0 : (0 : Int) ≤ ((j : Int) + (k : Int)) % (l.length : Int) := Int.emod_nonneg _ (by omega)
      have hi1 : ((j : Int) + (k : Int)) % (l.length : Int) < (l.length : Int) := Int.emod_lt_of_pos _ (by omega)
      have hi2 : (((j : Int) + (k : Int)) % (l.length : Int)).toNat = (j + k) % l.length := by
        rw [show ((j : Int) + (k : Int)) % (l.length : Int) = (((j + k) % l.length : Nat) : Int) by push_cast; rfl]
        exact Int.toNat_natCast _
      have HJ : Hid (0 < j → ordL l k (j + 1) = ordL l k j ++ 32 :: (nameF l[(j + k) % l.length] ++ 32 :: nameF l[(j + k) % l.length])) := Lib.hid (fun h => by rw [ord_succ l k j h, hgd])
      have HJ0 : Hid (j = 0 → ordL l k (j + 1) = nameF l[(j + k) % l.length] ++ 32 :: nameF l[(j + k) % l.length]) := Lib.hid (fun h => by subst h; rw [ord_one, hgd])
      have hns : (ByteArray.mk (nameF l[(j + k) % l.length]).toArray).size ≤ 9 := by rw [mk_size]; exact hnl
      clear ho hgd
      have RX := Lib.hid (RN.out l[(j + k) % l.length])
      generalize hx : l[(j + k) % l.length] = x at *
      clear hx
      by_cases h0 : 0 < j
      · have HO := Lib.hid (HJ.out h0)
        have h00 : j ≠ 0 := by omega
        have hz : (T ++ ByteArray.mk #[32] ++ (ByteArray.mk (nameF x).toArray ++ ByteArray.mk #[32] ++ ByteArray.mk (nameF x).toArray)).size ≤ 1 + 20 * (j + 1) := by
          simp only [ByteArray.size_append]
          have e : (ByteArray.mk #[32]).size = 1 := rfl
          rw [e]
          omega
        have HZ := Lib.hid hz
        clear hz HJ HJ0 RN
        go_wp2_with fail
        refine (RX.out _).mono ?_
        rintro e w2 ⟨rfl, rfl⟩
        go_wp2_with fail
        refine (RX.out _).mono ?_
        rintro e w2 ⟨rfl, rfl⟩
        go_wp2_with fail
        go_round
        case rel => exact ⟨j + 1, _, by omega, by go_num, rfl, HZ.out, Lib.hid (by rw [HO.out]; simp [ByteArray.data_append, HT.out])⟩
        case measure => simp [intOf]; omega
      · obtain rfl : j = 0 := by omega
        have HO := Lib.hid (HJ0.out rfl)
        have hz : (T ++ (ByteArray.mk (nameF x).toArray ++ ByteArray.mk #[32] ++ ByteArray.mk (nameF x).toArray)).size ≤ 1 + 20 * (0 + 1) := by
          simp only [ByteArray.size_append]
          have e : (ByteArray.mk #[32]).size = 1 := rfl
          rw [e]
          omega
        have HZ := Lib.hid hz
        clear hz HJ HJ0 RN
        have g0 : (0 : Int) ≤ (k : Int) % (l.length : Int) := by simpa using hi0
        have g1 : (k : Int) % (l.length : Int) < (l.length : Int) := by simpa using hi1
        have g2 : ((k : Int) % (l.length : Int)).toNat = k % l.length := by simpa using hi2
        have gm : k % l.length < l.length := by simpa using hm
        rw [Nat.zero_add] at hc0
        clear hi0 hi1 hi2 hm
        go_wp2_with fail
        refine (RX.out _).mono ?_
        rintro e w2 ⟨rfl, rfl⟩
        go_wp2_with fail
        refine (RX.out _).mono ?_
        rintro e w2 ⟨rfl, rfl⟩
        go_wp2_with fail
        go_round
        case rel => exact ⟨1, _, by omega, rfl, rfl, HZ.out, Lib.hid (by rw [HO.out]; simp [ByteArray.data_append, HT.out, ord_zero])⟩
        case measure => simp [intOf]; omega
    · obtain rfl : j = l.length := by omega
      have hTs : T.size ≤ 101 := by omega
      have P2 := P.out (T ++ ⟨#[41]⟩) (by rw [ByteArray.size_append]; have e : (ByteArray.mk #[41]).size = 1 := rfl; rw [e]; omega)
      have hl : (T ++ ByteArray.mk #[41]).data.toList = 40 :: (ordL l k l.length ++ [41]) := by simp [ByteArray.data_append, HT.out]
      rw [hl, HP.out] at P2
      have P3 := Lib.hid P2
      clear P2 hl HT HP P RN hS
      go_wp2_with fail
      refine (P3.out _).mono ?_
      rintro e w2 ⟨rfl, h⟩
      replace hb := below_next hb h
      clear h
      go_wp2_with fail
      refine (L.out _).mono ?_
      rintro e w3 ⟨rfl, h⟩
      replace hb := below_next hb h
      clear h
      go_wp2_with fail
      go_ret
      exact ⟨rfl, hb⟩
end Go.Proofs.YtchlmmglibladaaDoor
