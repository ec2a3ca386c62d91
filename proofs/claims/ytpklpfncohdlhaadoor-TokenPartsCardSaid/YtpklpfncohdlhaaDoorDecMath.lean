/- Decimal forms: plain mathematics. -/
import Derived.Test.YtpklpfncohdlhaaDoorNum
namespace Go.Proofs.YtpklpfncohdlhaaDoor
open Go.RowKit
open Go.Lib hiding intOf

theorem nd_le : ∀ (k u : Nat), 1 ≤ k → u < 10 ^ k → nDigits u ≤ k
  | 0, _, h, _ => by omega
  | k + 1, u, _, h => by
    by_cases hs : u < 10
    · rw [nDigits_small hs]; omega
    · rw [nDigits_big hs]
      have hk : 1 ≤ k := by
        rcases Nat.eq_zero_or_pos k with e | e
        · subst e; simp at h; omega
        · exact e
      have := nd_le k (u / 10) hk (by rw [Nat.pow_succ] at h; omega)
      omega
theorem dec_len {u : Nat} (h : u ≤ 4294967295) : (decDigits u).length ≤ 10 := by rw [decDigits_length]; exact nd_le 10 u (by omega) (by omega)
theorem digit_at : ∀ d : Fin 10, (ByteArray.mk #[48, 49, 50, 51, 52, 53, 54, 55, 56, 57]).extract d.val (d.val + 1) = ⟨#[UInt8.ofNat (48 + d.val)]⟩ := by decide +kernel
theorem dec_front (d : Nat) (hd : d < 10) (acc : List UInt8) : (ByteArray.mk #[48, 49, 50, 51, 52, 53, 54, 55, 56, 57]).extract d (d + 1) ++ ByteArray.mk acc.toArray = ⟨(UInt8.ofNat (48 + d) :: acc).toArray⟩ := by
  rw [digit_at ⟨d, hd⟩]
  apply ByteArray.ext
  simp [ByteArray.data_append]
theorem dec_step {m u : Nat} {acc : List UInt8} (h : decDigits m ++ acc = decDigits u) (hm : 10 ≤ m) : decDigits (m / 10) ++ (UInt8.ofNat (48 + m % 10) :: acc) = decDigits u := by
  rw [← h, decDigits.eq_1 m, dif_neg (by omega)]
  simp
theorem dec_last {m u : Nat} {acc : List UInt8} (h : decDigits m ++ acc = decDigits u) (hm : ¬ 10 ≤ m) : UInt8.ofNat (48 + m) :: acc = decDigits u := by
  rw [← h, decDigits_one (by omega)]
  rfl

end Go.Proofs.YtpklpfncohdlhaaDoor
