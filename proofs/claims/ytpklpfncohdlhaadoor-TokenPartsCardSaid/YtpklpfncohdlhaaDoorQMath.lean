/- Layer 4 in plain words: the forms. No walk, no program. -/
import Derived.Test.YtpklpfncohdlhaaDoorCharMath
import Derived.Lib.Hide
namespace Go.Proofs.YtpklpfncohdlhaaDoor
open Go.RowKit

/-- Bytes that have a backslash in front of them. -/
def spN (n : Nat) : Bool := decide (n = 34 ∨ n = 92)
def escC (c : UInt8) : List UInt8 := if spN c.toNat = true then [92, c] else [c]
def escL (l : List UInt8) : List UInt8 := l.flatMap escC
def quotedL (l : List UInt8) : List UInt8 := 34 :: (escL l ++ [34])
/-- All are text bytes. -/
def allT (l : List UInt8) : Bool := l.all fun c => textN c.toNat

theorem escL_nil : escL [] = [] := rfl
theorem escL_cons (c : UInt8) (l : List UInt8) : escL (c :: l) = escC c ++ escL l := rfl
theorem escL_append (a b : List UInt8) : escL (a ++ b) = escL a ++ escL b := by simp [escL]
theorem escC_len (c : UInt8) : (escC c).length ≤ 2 := by unfold escC; split <;> simp
theorem escL_len (l : List UInt8) : (escL l).length ≤ 2 * l.length := by
  induction l with
  | nil => simp [escL]
  | cons c l ih =>
    rw [escL_cons, List.length_append, List.length_cons]
    have := escC_len c
    omega
theorem escL_snoc (l : List UInt8) (k : Nat) (h : k < l.length) : escL (l.take (k + 1)) = escL (l.take k) ++ escC l[k] := by
  rw [List.take_succ_eq_append_getElem h, escL_append]
  simp [escL]
theorem allT_false (l : List UInt8) (k : Nat) (h : k < l.length) (ht : textN l[k].toNat = false) : allT l = false := by
  unfold allT
  rw [List.all_eq_false]
  exact ⟨l[k], List.getElem_mem _, by simp [ht]⟩
theorem allT_snoc (l : List UInt8) (k : Nat) (h : k < l.length) (ha : allT (l.take k) = true) (ht : textN l[k].toNat = true) : allT (l.take (k + 1)) = true := by
  unfold allT at *
  rw [List.take_succ_eq_append_getElem h, List.all_append, ha]
  simp [ht]
theorem allT_at {l : List UInt8} (h : allT l = true) {c : UInt8} (hc : c ∈ l) : textN c.toNat = true := by
  unfold allT at h
  exact List.all_eq_true.1 h c hc

/-- What the loop of Quoted keeps: collected ++ not yet collected is the form so far. -/
theorem q_step_plain {X l : List UInt8} {k f : Nat} (hk : k < l.length) (hf : f ≤ k) (h : X ++ ((l.take k).drop f) = 34 :: escL (l.take k)) (hs : spN l[k].toNat = false) : X ++ ((l.take (k + 1)).drop f) = 34 :: escL (l.take (k + 1)) := by
  have e1 : escC l[k] = [l[k]] := by unfold escC; rw [if_neg (by simp [hs])]
  have e2 : (l.take (k + 1)).drop f = (l.take k).drop f ++ [l[k]] := by
    rw [List.take_succ_eq_append_getElem hk, List.drop_append_of_le_length (by simp; omega)]
  rw [escL_snoc l k hk, e1, e2, ← List.append_assoc, h]
  rfl
theorem q_step_sp {X l : List UInt8} {k f : Nat} (hk : k < l.length) (h : X ++ ((l.take k).drop f) = 34 :: escL (l.take k)) (hs : spN l[k].toNat = true) : ((X ++ ((l.take k).drop f)) ++ [92]) ++ ((l.take (k + 1)).drop k) = 34 :: escL (l.take (k + 1)) := by
  have e1 : escC l[k] = [92, l[k]] := by unfold escC; rw [if_pos hs]
  have e2 : (l.take (k + 1)).drop k = [l[k]] := by
    rw [List.take_succ_eq_append_getElem hk, List.drop_append_of_le_length (by simp; omega)]
    simp
  rw [escL_snoc l k hk, e1, e2, h]
  simp
theorem q_end {X l : List UInt8} {f : Nat} (h : X ++ ((l.take l.length).drop f) = 34 :: escL (l.take l.length)) : (X ++ l.drop f) ++ [34] = quotedL l := by
  rw [List.take_length] at h
  rw [h]
  rfl
theorem q_len {X l : List UInt8} {k f : Nat} (hk : k ≤ l.length) (hf : f ≤ k) (h : X ++ ((l.take k).drop f) = 34 :: escL (l.take k)) : X.length + (k - f) ≤ 1 + 2 * k := by
  have h1 := congrArg List.length h
  have h2 := escL_len (l.take k)
  rw [List.length_append, List.length_drop, List.length_take, List.length_cons] at h1
  rw [List.length_take] at h2
  omega
end Go.Proofs.YtpklpfncohdlhaaDoor
