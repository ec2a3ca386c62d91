/- Changes of flags in plain words; the bits of small numbers. No walk. -/
import Derived.Test.YtchlmmglibladaaDoorFlagMath
import Derived.Laws.BitsAllLaws
import Derived.Maps.OwnSet
namespace Go.Proofs.YtchlmmglibladaaDoor
open Go.RowKit Go.Maps

theorem ofInt_i64 (a : Nat) (ha : a < 18446744073709551616) : (BitVec.ofInt 64 (a : Int)).toNat = a := by
  rw [BitVec.ofInt_natCast, BitVec.toNat_ofNat]; exact Nat.mod_eq_of_lt (by omega)
theorem wrap_i64_nat (a : Nat) (ha : a < 256) : IntKind.i64.wrap (a : Int) = (a : Int) := by
  have h : (a : Int) % 18446744073709551616 = a := by omega
  simp only [IntKind.wrap, IntKind.bits, IntKind.signed, Bool.true_and, Int.reducePow, Nat.reduceSub, ge_iff_le, h, decide_eq_true_eq]
  rw [if_neg (by omega)]
theorem i64_and_nat (a b : Nat) (ha : a < 256) (hb : b < 256) : bits .and .i64 (a : Int) (b : Int) = ((a &&& b : Nat) : Int) := by
  have hx : a &&& b < 2 ^ 8 := Nat.and_lt_two_pow _ (by omega)
  show IntKind.i64.wrap ((BitVec.ofInt 64 (a : Int) &&& BitVec.ofInt 64 (b : Int)).toNat : Int) = _
  rw [BitVec.toNat_and, ofInt_i64 a (by omega), ofInt_i64 b (by omega)]
  exact wrap_i64_nat _ hx
theorem i64_or_nat (a b : Nat) (ha : a < 256) (hb : b < 256) : bits .or .i64 (a : Int) (b : Int) = ((a ||| b : Nat) : Int) := by
  have hx : a ||| b < 2 ^ 8 := Nat.or_lt_two_pow (by omega) (by omega)
  show IntKind.i64.wrap ((BitVec.ofInt 64 (a : Int) ||| BitVec.ofInt 64 (b : Int)).toNat : Int) = _
  rw [BitVec.toNat_or, ofInt_i64 a (by omega), ofInt_i64 b (by omega)]
  exact wrap_i64_nat _ hx
theorem bit64_yes {f o : Nat} (hf : f < 256) (ho : o < 256) (h : f &&& o = 0) : (bits BinOp.and IntKind.i64 (f : Int) (o : Int) == 0) = true := by
  rw [i64_and_nat f o hf ho, h]; rfl
theorem bit64_no {f o : Nat} (hf : f < 256) (ho : o < 256) (h : f &&& o ≠ 0) : (bits BinOp.and IntKind.i64 (f : Int) (o : Int) == 0) = false := by
  rw [i64_and_nat f o hf ho]
  simp only [beq_eq_false_iff_ne, ne_eq, Int.natCast_eq_zero]
  exact h
theorem not31 : ∀ a b : Fin 32, a.val &&& (18446744073709551615 - b.val) = a.val &&& (255 - b.val) := by decide +kernel
theorem i64_andNot_nat (a b : Nat) (ha : a < 32) (hb : b < 32) : bits .andNot .i64 (a : Int) (b : Int) = ((a &&& (255 - b) : Nat) : Int) := by
  have hx : a &&& (255 - b) < 2 ^ 8 := Nat.and_lt_two_pow _ (by omega)
  show IntKind.i64.wrap ((BitVec.ofInt 64 (a : Int) &&& ~~~BitVec.ofInt 64 (b : Int)).toNat : Int) = _
  rw [BitVec.toNat_and, BitVec.toNat_not, ofInt_i64 a (by omega), ofInt_i64 b (by omega)]
  have e : 2 ^ 64 - 1 - b = 18446744073709551615 - b := by omega
  rw [e, not31 ⟨a, ha⟩ ⟨b, hb⟩]
  exact wrap_i64_nat _ hx

/-- What a change leads to. -/
def changeO (old : Nat) (mode : Int) (f : Nat) : Option Nat :=
  if 31 < old ∨ 31 < f then none else if mode = 0 then some f else if mode = 1 then some (old ||| f) else if mode = 2 then some (old &&& (255 - f)) else none
theorem high1 : ∀ a : Fin 256, a.val &&& 224 = 0 ↔ a.val ≤ 31 := by decide +kernel
theorem high_or (a b : Nat) (ha : a < 256) (hb : b < 256) : ((a ||| b) &&& 224 = 0) ↔ (a ≤ 31 ∧ b ≤ 31) := by
  rw [Nat.and_or_distrib_right, Nat.or_eq_zero_iff, high1 ⟨a, ha⟩, high1 ⟨b, hb⟩]

/-- How a function's value reads: by its number. -/
def fnElem : Value → Option (DataW Unit × List MemPlace)
  | .nilFunc => some (.nil, [])
  | .func (.func n) a b => if a.size = 0 ∧ b.size = 0 then some (.lit (.int .i64 n), []) else none
  | _ => none
theorem fnElem_nil {v : Value} {ps : List MemPlace} (h : fnElem v = some (.nil, ps)) : v = .nilFunc := by
  unfold fnElem at h
  split at h
  · rfl
  · split at h <;> simp at h
  · cases h
theorem fnElem_fn {v : Value} {n : Nat} {ps : List MemPlace} (h : fnElem v = some (.lit (.int .i64 n), ps)) : v = .func (.func n) #[] #[] := by
  unfold fnElem at h
  split at h
  · simp at h
  · rename_i m a b
    split at h
    · rename_i hs
      simp at h
      obtain ⟨h, _⟩ := h
      have ha : a = #[] := by apply Array.eq_empty_of_size_eq_zero hs.1
      have hb : b = #[] := by apply Array.eq_empty_of_size_eq_zero hs.2
      subst ha hb
      first
        | (subst h; rfl)
        | (have hm : m = n := Int.ofNat.inj h; subst hm; rfl)
    · cases h
  · cases h
def fnD (n : Nat) : DataW Unit := .lit (.int .i64 (n : Int))
end Go.Proofs.YtchlmmglibladaaDoor
