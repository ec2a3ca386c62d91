/- Which strings are the decimal form of a number: plain facts. -/
import Derived.Test.YtpklpfncohdlhaaDoorDecMath
namespace Go.Proofs.YtpklpfncohdlhaaDoor
open Go.RowKit
open Go.Lib hiding intOf

def isDig (c : UInt8) : Bool := decide (48 ≤ c.toNat ∧ c.toNat ≤ 57)
def valF (acc : Nat) (l : List UInt8) : Nat := l.foldl (fun a c => a * 10 + (c.toNat - 48)) acc

theorem valF_cons (acc : Nat) (c : UInt8) (l : List UInt8) : valF acc (c :: l) = valF (acc * 10 + (c.toNat - 48)) l := by unfold valF; rw [List.foldl_cons]
theorem valF_append (acc : Nat) (a b : List UInt8) : valF acc (a ++ b) = valF (valF acc a) b := by simp [valF]
theorem valF_ge : ∀ (l : List UInt8) (acc : Nat), acc ≤ valF acc l
  | [], acc => Nat.le_refl _
  | c :: l, acc => by rw [valF_cons]; have := valF_ge l (acc * 10 + (c.toNat - 48)); omega
theorem valF_lt : ∀ (l : List UInt8) (acc k : Nat), l.all isDig = true → acc < 10 ^ k → valF acc l < 10 ^ (k + l.length)
  | [], acc, k, _, h => h
  | c :: l, acc, k, ha, h => by
    simp only [List.all_cons, Bool.and_eq_true, isDig, decide_eq_true_eq] at ha
    rw [valF_cons, List.length_cons, show k + (l.length + 1) = (k + 1) + l.length by omega]
    exact valF_lt l _ _ ha.2 (by rw [Nat.pow_succ]; omega)

theorem parseM_digits (M : Nat) (hM : M < 1844674407370955162) : ∀ (l : List UInt8) (acc : Nat), l.all isDig = true → valF acc l ≤ M → parseUintM M acc l = .ok (valF acc l)
  | [], acc, _, _ => rfl
  | c :: l, acc, ha, h => by
    simp only [List.all_cons, Bool.and_eq_true, isDig, decide_eq_true_eq] at ha
    have h1 := valF_ge l (acc * 10 + (c.toNat - 48))
    rw [valF_cons] at h ⊢
    rw [parseUintM, if_pos ha.1, if_neg (by omega), if_neg (by omega)]
    exact parseM_digits M hM l _ ha.2 h

theorem dig_of (d : Nat) (h : d < 10) : (UInt8.ofNat (48 + d)).toNat = 48 + d := by rw [UInt8.toNat_ofNat']; exact Nat.mod_eq_of_lt (by omega)
theorem dec_facts (u : Nat) : (decDigits u).all isDig = true ∧ valF 0 (decDigits u) = u ∧ decDigits u ≠ [] := by
  induction u using Nat.strongRecOn with
  | _ u ih =>
    by_cases h : u < 10
    · rw [decDigits_one h]
      have := dig_of u h
      refine ⟨?_, ?_, by simp⟩
      · simp only [List.all_cons, List.all_nil, Bool.and_true, isDig, this]; simp; omega
      · rw [valF_cons, this]; simp only [valF, List.foldl_nil]; omega
    · rw [decDigits.eq_1 u, dif_neg h]
      obtain ⟨h1, h2, h3⟩ := ih (u / 10) (by omega)
      have := dig_of (u % 10) (by omega)
      refine ⟨?_, ?_, by simp⟩
      · simp only [List.all_append, h1, List.all_cons, List.all_nil, Bool.and_true, Bool.true_and, isDig, this]; simp; omega
      · rw [valF_append, h2, valF_cons, this]; simp only [valF, List.foldl_nil]; omega

theorem numOf_dec {u : Nat} (h : u ≤ 4294967295) : numOf (decDigits u) = some u := by
  obtain ⟨h1, h2, h3⟩ := dec_facts u
  unfold numOf parseUintB
  rw [if_neg h3, show (2 : Nat) ^ 32 - 1 = 4294967295 from rfl, parseM_digits 4294967295 (by omega) _ _ h1 (by rw [h2]; exact h), h2]
  simp
theorem numOf_some {l : List UInt8} {u : Nat} (h : numOf l = some u) : u ≤ 4294967295 ∧ decDigits u = l := by
  unfold numOf at h
  rcases hp : parseUintB 32 l with v | _ | _
  · rw [hp] at h
    simp only at h
    split at h
    · rename_i hd
      obtain rfl := Option.some.inj h
      exact ⟨by have := parseUintB_le hp; simpa using this, hd⟩
    · cases h
  · rw [hp] at h; cases h
  · rw [hp] at h; cases h
theorem numOf_not {l : List UInt8} (h : ∀ u, u ≤ 4294967295 → decDigits u ≠ l) : numOf l = none := by
  cases hn : numOf l with
  | none => rfl
  | some u => obtain ⟨a, b⟩ := numOf_some hn; exact absurd b (h u a)
theorem numOf_long {l : List UInt8} (h : 10 < l.length) : numOf l = none := numOf_not fun u hu e => by
  have := dec_len hu
  rw [e] at this
  omega
theorem numOf_nodig {l : List UInt8} (h : l.all isDig = false) : numOf l = none := numOf_not fun u hu e => by
  have := (dec_facts u).1
  rw [e, h] at this
  cases this
theorem numOf_big {l : List UInt8} (h : 4294967295 < valF 0 l) : numOf l = none := numOf_not fun u hu e => by
  have := (dec_facts u).2.1
  rw [e] at this
  omega
theorem numOf_same {l : List UInt8} (h : valF 0 l ≤ 4294967295) (hd : decDigits (valF 0 l) = l) : numOf l = some (valF 0 l) := by
  have := numOf_dec h
  rw [hd] at this
  exact this
theorem numOf_other {l : List UInt8} (hd : decDigits (valF 0 l) ≠ l) : numOf l = none := numOf_not fun u hu e => by
  have := (dec_facts u).2.1
  rw [e] at this
  exact hd (by rw [this]; exact e)
end Go.Proofs.YtpklpfncohdlhaaDoor
