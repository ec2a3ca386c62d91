/- The reference's Decimal and Number. -/
import Derived.Test.YtdgcghcigjblaaaDoorNum
namespace Go.Proofs.YtdgcghcigjblaaaDoor
open Go.RowKit
open Go.Lib hiding intOf

theorem nd_le : ∀ (k u : Nat), 1 ≤ k → u < 10 ^ k → nDigits u ≤ k
  | 0, _, h, _ => by omega
  | k + 1, u, _, h => by
    by_cases hs : u < 10
    · rw [nDigits_small hs]; omega
    · rw [nDigits_big hs]
      have hk : 1 ≤ k := by
        rcases Nat.eq_zero_or_pos k with e | e
        · subst e; simp at h; omega
        · exact e
      have := nd_le k (u / 10) hk (by rw [Nat.pow_succ] at h; omega)
      omega
theorem dec_len {u : Nat} (h : u ≤ 4294967295) : (decDigits u).length ≤ 10 := by rw [decDigits_length]; exact nd_le 10 u (by omega) (by omega)
theorem digit_at : ∀ d : Fin 10, (ByteArray.mk #[48, 49, 50, 51, 52, 53, 54, 55, 56, 57]).extract d.val (d.val + 1) = ⟨#[UInt8.ofNat (48 + d.val)]⟩ := by decide +kernel
theorem dec_front (d : Nat) (hd : d < 10) (acc : List UInt8) : (ByteArray.mk #[48, 49, 50, 51, 52, 53, 54, 55, 56, 57]).extract d (d + 1) ++ ByteArray.mk acc.toArray = ⟨(UInt8.ofNat (48 + d) :: acc).toArray⟩ := by
  rw [digit_at ⟨d, hd⟩]
  apply ByteArray.ext
  simp [ByteArray.data_append]
theorem dec_step {m u : Nat} {acc : List UInt8} (h : decDigits m ++ acc = decDigits u) (hm : 10 ≤ m) : decDigits (m / 10) ++ (UInt8.ofNat (48 + m % 10) :: acc) = decDigits u := by
  rw [← h, decDigits.eq_1 m, dif_neg (by omega)]
  simp
theorem dec_last {m u : Nat} {acc : List UInt8} (h : decDigits m ++ acc = decDigits u) (hm : ¬ 10 ≤ m) : UInt8.ofNat (48 + m) :: acc = decDigits u := by
  rw [← h, decDigits_one (by omega)]
  rfl

set_option maxRecDepth 100000 in
set_option maxHeartbeats 400000 in
theorem refDecimal_any (u : Nat) (hu : u ≤ 4294967295) (w : World) :
    Calls Tryd.prog 43 #[.int .u32 u] w fun e w' => e = .returned (.string ⟨(decDigits u).toArray⟩) ∧ w = w' := by
  go_enter Tryd.func43, Tryd.ntmps43
  go_wp2_with fail
  go_loop [0, 3] (fun n s => ∃ (m : Nat) (acc : List UInt8), m ≤ u ∧ n = .int .u32 m ∧ s = .string ⟨acc.toArray⟩ ∧ decDigits m ++ acc = decDigits u) (fun n _ => (intOf n).toNat)
  case atStart => exact ⟨u, [], Nat.le_refl _, rfl, rfl, by simp⟩
  case round =>
    obtain ⟨m, acc, hm, rfl, rfl, he⟩ := hrel
    have HE := Lib.hid he
    clear he
    have hal : acc.length ≤ 10 := by
      have h1 := congrArg List.length HE.out
      have h2 := dec_len hu
      rw [List.length_append] at h1
      omega
    by_cases hlt : 10 ≤ m
    · go_wp2_with fail
      go_round
      case rel => exact ⟨m / 10, _, by omega, by go_num, congrArg Value.string (dec_front (m % 10) (by omega) acc), dec_step HE.out hlt⟩
      case measure => simp [intOf]; omega
    · go_wp2_with fail
      go_ret
      exact ⟨by rw [← dec_last HE.out hlt, ← dec_front m (by omega) acc]; rfl, rfl⟩
end Go.Proofs.YtdgcghcigjblaaaDoor
