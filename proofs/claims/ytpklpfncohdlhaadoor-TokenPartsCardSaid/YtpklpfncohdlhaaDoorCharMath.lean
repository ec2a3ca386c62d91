/- Layer 1 in plain words: the three classes, capital letters. No walk, no program. -/
import Derived.WalkKit
namespace Go.Proofs.YtpklpfncohdlhaaDoor
open Go.RowKit

/-- The class of atom bytes. -/
def atomN (n : Nat) : Bool := decide (32 < n ∧ n < 127 ∧ n ≠ 34 ∧ n ≠ 37 ∧ n ≠ 40 ∧ n ≠ 41 ∧ n ≠ 42 ∧ n ≠ 92 ∧ n ≠ 93 ∧ n ≠ 123)
/-- The class of tag bytes. -/
def tagN (n : Nat) : Bool := decide (n = 93 ∨ 32 < n ∧ n < 127 ∧ n ≠ 34 ∧ n ≠ 37 ∧ n ≠ 40 ∧ n ≠ 41 ∧ n ≠ 42 ∧ n ≠ 92 ∧ n ≠ 123 ∧ n ≠ 43)
/-- The class of text bytes. -/
def textN (n : Nat) : Bool := decide (0 < n ∧ n < 128 ∧ n ≠ 10 ∧ n ≠ 13)
/-- The bit of a byte in four words. -/
def bitAt (a b c d : Int) (n : Nat) : Bool := bits BinOp.and IntKind.u64 ((if n / 64 = 0 then a else if n / 64 = 1 then b else if n / 64 = 2 then c else d) / 2 ^ (n % 64)) 1 == 1

theorem atom_bit : ∀ n : Fin 256, bitAt 18446736213919399936 8646911283746045951 0 0 n.val = atomN n.val := by decide +kernel
theorem tag_bit : ∀ n : Fin 256, bitAt 18446727417826377728 8646911284282916863 0 0 n.val = tagN n.val := by decide +kernel
theorem text_bit : ∀ n : Fin 256, bitAt 18446744073709542398 18446744073709551615 0 0 n.val = textN n.val := by decide +kernel

/-- A capital letter in the place of a small one. -/
def upN (n : Nat) : Nat := if 97 ≤ n ∧ n ≤ 122 then n - 32 else n
def upB (c : UInt8) : UInt8 := UInt8.ofNat (upN c.toNat)
def upL (l : List UInt8) : List UInt8 := l.map upB
theorem upN_lt {n : Nat} (h : n < 256) : upN n < 256 := by unfold upN; split <;> omega
theorem upB_toNat (c : UInt8) : (upB c).toNat = upN c.toNat := by
  unfold upB; rw [UInt8.toNat_ofNat']; exact Nat.mod_eq_of_lt (upN_lt c.toNat_lt)
theorem upN_upN (n : Nat) : upN (upN n) = upN n := by unfold upN; split <;> (try split) <;> omega
theorem upB_upB (c : UInt8) : upB (upB c) = upB c := by
  apply UInt8.toNat_inj.1; rw [upB_toNat, upB_toNat, upN_upN]
theorem upL_upL (l : List UInt8) : upL (upL l) = upL l := by
  unfold upL; rw [List.map_map]; exact List.map_congr_left fun c _ => upB_upB c
theorem upL_length (l : List UInt8) : (upL l).length = l.length := by simp [upL]
end Go.Proofs.YtpklpfncohdlhaaDoor
