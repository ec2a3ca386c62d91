/- The reference's Number. -/
import Derived.Test.YtpklpfncohdlhaaDoorNumMath
import Derived.Test.YtpklpfncohdlhaaDoorRefDec
namespace Go.Proofs.YtpklpfncohdlhaaDoor
open Go.RowKit
open Go.Lib hiding intOf

theorem val_snoc (s : ByteArray) (k : Nat) (h : k < s.size) : valF 0 (s.data.toList.take (k + 1)) = valF 0 (s.data.toList.take k) * 10 + (s[k].toNat - 48) := by
  rw [take_snocB s k h, valF_append]
  simp only [valF, List.foldl_cons, List.foldl_nil]
theorem dig_snoc (s : ByteArray) (k : Nat) (h : k < s.size) (ha : (s.data.toList.take k).all isDig = true) (h1 : 48 ≤ s[k].toNat) (h2 : s[k].toNat ≤ 57) : (s.data.toList.take (k + 1)).all isDig = true := by
  rw [take_snocB s k h, List.all_append, ha]
  simp [isDig, h1, h2]
theorem dig_no (s : ByteArray) (k : Nat) (h : k < s.size) (h1 : s[k].toNat < 48 ∨ 57 < s[k].toNat) : s.data.toList.all isDig = false := by
  rw [List.all_eq_false]
  exact ⟨s[k], by simp [ByteArray.getElem_eq_getElem_data], by simp [isDig]; omega⟩
theorem val_bound (s : ByteArray) (k : Nat) (ha : (s.data.toList.take k).all isDig = true) (hk : k ≤ 10) : valF 0 (s.data.toList.take k) < 10000000000 := by
  have := valF_lt _ 0 0 ha (by omega)
  have hl : (s.data.toList.take k).length ≤ 10 := Nat.le_trans (List.length_take_le _ _) hk
  have hp : 10 ^ (0 + (s.data.toList.take k).length) ≤ 10 ^ 10 := Nat.pow_le_pow_right (by omega) (by omega)
  omega

theorem val_int {k : IntKind} {a b : Int} (h : a = b) : Value.int k a = .int k b := by rw [h]

set_option maxRecDepth 100000 in
set_option maxHeartbeats 400000 in
theorem refNumber_any (s : ByteArray) (hs : s.size ≤ 1000000000) (w : World) :
    Calls Tryd.prog 46 #[.string s] w fun e w' => e = .returned (.tuple #[.int .u32 ((numOf s.data.toList).getD 0 : Nat), .bool (numOf s.data.toList).isSome]) ∧ w = w' := by
  by_cases hl : s.size ≤ 10
  · go_enter Tryd.func46, Tryd.ntmps46
    go_wp2_with fail
    go_loop [4, 5] (fun n i => ∃ k : Nat, k ≤ s.size ∧ i = .int .i64 k ∧ n = .int .u64 (valF 0 (s.data.toList.take k) : Nat) ∧ (s.data.toList.take k).all isDig = true) (fun _ i => s.size - (intOf i).toNat)
    case atStart => exact ⟨0, Nat.zero_le _, rfl, rfl, rfl⟩
    case round =>
      obtain ⟨k, hk, rfl, rfl, ha⟩ := hrel
      have HA := Lib.hid ha
      have hvb := val_bound s k ha (by omega)
      clear ha
      by_cases hlt : k < s.size
      · have HV := Lib.hid (val_snoc s k hlt)
        have hc := s[k].toNat_lt
        generalize hx : valF 0 (s.data.toList.take k) = x at *
        have HX := Lib.hid hx
        clear hx
        by_cases h1 : 48 ≤ s[k].toNat
        · by_cases h2 : s[k].toNat ≤ 57
          · have HD := Lib.hid (dig_snoc s k hlt HA.out h1 h2)
            go_wp2_with fail
            go_round
            case rel => exact ⟨k + 1, by omega, by go_num, val_int (by rw [HV.out]; omega), HD.out⟩
            case measure => simp [intOf]; omega
          · have HN := Lib.hid (numOf_nodig (dig_no s k hlt (Or.inr (by omega))))
            go_wp2_with fail
            go_ret2
            exact ⟨by rw [HN.out]; rfl, rfl⟩
        · have HN := Lib.hid (numOf_nodig (dig_no s k hlt (Or.inl (by omega))))
          go_wp2_with fail
          go_ret2
          exact ⟨by rw [HN.out]; rfl, rfl⟩
      · obtain rfl : k = s.size := by omega
        rw [take_all] at HA hvb
        rw [take_all]
        by_cases hbig : valF 0 s.data.toList ≤ 4294967295
        · have D := Lib.hid (refDecimal_any (valF 0 s.data.toList) hbig w)
          by_cases hd : decDigits (valF 0 s.data.toList) = s.data.toList
          · have HN := Lib.hid (numOf_same hbig hd)
            have ht : (decDigits (valF 0 s.data.toList) == s.toList) = true := by rw [btl]; simpa using hd
            clear hd
            generalize decDigits (valF 0 s.data.toList) = l at *
            generalize valF 0 s.data.toList = x at *
            go_wp2_with fail
            refine D.out.mono ?_
            rintro e w1 ⟨rfl, rfl⟩
            go_wp2_with fail
            go_ret2
            exact ⟨by rw [HN.out]; rfl, rfl⟩
          · have HN := Lib.hid (numOf_other hd)
            have ht : (decDigits (valF 0 s.data.toList) == s.toList) = false := by rw [btl]; simpa using hd
            clear hd
            generalize decDigits (valF 0 s.data.toList) = l at *
            generalize valF 0 s.data.toList = x at *
            go_wp2_with fail
            refine D.out.mono ?_
            rintro e w1 ⟨rfl, rfl⟩
            go_wp2_with fail
            go_ret2
            exact ⟨by rw [HN.out]; rfl, rfl⟩
        · have HN := Lib.hid (numOf_big (l := s.data.toList) (by omega))
          generalize valF 0 s.data.toList = x at *
          go_wp2_with fail
          go_ret2
          exact ⟨by rw [HN.out]; rfl, rfl⟩
  · have HN := Lib.hid (numOf_long (l := s.data.toList) (by simp; omega))
    go_enter Tryd.func46, Tryd.ntmps46
    go_wp2_with fail
    go_ret2
    exact ⟨by rw [HN.out]; rfl, rfl⟩
end Go.Proofs.YtpklpfncohdlhaaDoor
