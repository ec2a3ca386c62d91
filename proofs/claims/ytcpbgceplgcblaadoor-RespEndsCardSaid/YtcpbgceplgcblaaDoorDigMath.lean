/- Digits, and the value of a string of digits: plain facts. -/
import Derived.Test.YtcpbgceplgcblaaDoorGb
namespace Go.Proofs.YtcpbgceplgcblaaDoor
open Go.RowKit
open Go.Lib hiding intOf

def isDig (c : UInt8) : Bool := decide (48 ≤ c.toNat ∧ c.toNat ≤ 57)
def valF (acc : Nat) (l : List UInt8) : Nat := l.foldl (fun a c => a * 10 + (c.toNat - 48)) acc

theorem valF_cons (acc : Nat) (c : UInt8) (l : List UInt8) : valF acc (c :: l) = valF (acc * 10 + (c.toNat - 48)) l := by unfold valF; rw [List.foldl_cons]
theorem valF_append (acc : Nat) (a b : List UInt8) : valF acc (a ++ b) = valF (valF acc a) b := by simp [valF]
theorem valF_ge : ∀ (l : List UInt8) (acc : Nat), acc ≤ valF acc l
  | [], acc => Nat.le_refl _
  | c :: l, acc => by rw [valF_cons]; have := valF_ge l (acc * 10 + (c.toNat - 48)); omega
theorem valF_lt : ∀ (l : List UInt8) (acc k : Nat), l.all isDig = true → acc < 10 ^ k → valF acc l < 10 ^ (k + l.length)
  | [], acc, k, _, h => h
  | c :: l, acc, k, ha, h => by
    simp only [List.all_cons, Bool.and_eq_true, isDig, decide_eq_true_eq] at ha
    rw [valF_cons, List.length_cons, show k + (l.length + 1) = (k + 1) + l.length by omega]
    exact valF_lt l _ _ ha.2 (by rw [Nat.pow_succ]; omega)

theorem dig_of (d : Nat) (h : d < 10) : (UInt8.ofNat (48 + d)).toNat = 48 + d := by rw [UInt8.toNat_ofNat']; exact Nat.mod_eq_of_lt (by omega)
theorem dec_facts (u : Nat) : (decDigits u).all isDig = true ∧ valF 0 (decDigits u) = u ∧ decDigits u ≠ [] := by
  induction u using Nat.strongRecOn with
  | _ u ih =>
    by_cases h : u < 10
    · rw [decDigits_one h]
      have := dig_of u h
      refine ⟨?_, ?_, by simp⟩
      · simp only [List.all_cons, List.all_nil, Bool.and_true, isDig, this]; simp; omega
      · rw [valF_cons, this]; simp only [valF, List.foldl_nil]; omega
    · rw [decDigits.eq_1 u, dif_neg h]
      obtain ⟨h1, h2, h3⟩ := ih (u / 10) (by omega)
      have := dig_of (u % 10) (by omega)
      refine ⟨?_, ?_, by simp⟩
      · simp only [List.all_append, h1, List.all_cons, List.all_nil, Bool.and_true, Bool.true_and, isDig, this]; simp; omega
      · rw [valF_append, h2, valF_cons, this]; simp only [valF, List.foldl_nil]; omega

end Go.Proofs.YtcpbgceplgcblaaDoor
