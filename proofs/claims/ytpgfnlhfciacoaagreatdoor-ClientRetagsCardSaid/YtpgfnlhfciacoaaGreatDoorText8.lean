/- The text of a command in plain words, and how long it is. No walk. -/
import Derived.Test.YtpgfnlhfciacoaaGreatDoorGa
import Derived.Test.YtpgfnlhfciacoaaGreatDoorGb
import Derived.Test.YtpgfnlhfciacoaaGreatDoorGv
namespace Go.Proofs.YtpgfnlhfciacoaaGreatDoor
open Go.RowKit

/-- A mailbox as it is written. -/
def mboxT (s : List UInt8) : List UInt8 := if allL atomN s = true then s else bestL s
def spB : ByteArray := ⟨#[32]⟩
/-- What follows the verb. -/
def restT (a : CI) : List UInt8 :=
  if a.kind = 5 then 32 :: mboxT a.mbox
  else if a.kind = 6 then (32 :: mboxT a.mbox) ++ ((if 0 < a.flags then 32 :: listL a.flags.toNat else []) ++ 32 :: literalL a.data)
  else if a.kind = 7 then (32 :: printL a.set) ++ 32 :: itemsT a.items.toNat
  else if a.kind = 8 then (32 :: printL a.set) ++ ((32 :: modeT a.mode.toNat a.silent) ++ 32 :: listL a.flags.toNat)
  else []
/-- The text of a command, without 13 and 10. -/
def textT (a : CI) : List UInt8 := a.tag ++ (32 :: verbZ a.kind) ++ restT a

theorem escL_len8 (b : List UInt8) : (escL b).length ≤ 2 * b.length := by
  induction b with
  | nil => simp [escL]
  | cons c b ih =>
    rw [escL_cons, List.length_append]
    have : (escC c).length ≤ 2 := by unfold escC; split <;> simp
    simp only [List.length_cons]
    omega
theorem lit_len8 {b : List UInt8} (hb : b.length ≤ 1000000) : (literalL b).length ≤ b.length + 14 := by
  unfold literalL
  have := headL_len (n := b.length) (by omega)
  rw [List.length_append]
  omega
theorem mboxT_len {b : List UInt8} (hb : b.length ≤ 1000000) : (mboxT b).length ≤ 2 * b.length + 14 := by
  have h1 := escL_len8 b
  have h2 := lit_len8 hb
  unfold mboxT bestL quotedL
  split
  · omega
  · split
    · simp only [List.length_cons, List.length_append, List.length_nil]; omega
    · omega
theorem verbZ_len (k : Int) : (verbZ k).length ≤ 7 := by
  unfold verbZ verbB
  repeat' split
  all_goals decide
theorem listL_len8 {f : Nat} (hf : f ≤ 31) : (listL f).length ≤ 60 := by
  have h : ∀ x : _root_.Fin 32, (listL x.val).length ≤ 60 := by decide +kernel
  exact h ⟨f, by omega⟩
theorem itemsT_len8 {f : Nat} (hf : f ≤ 31) : (itemsT f).length ≤ 60 := by
  have h : ∀ x : _root_.Fin 32, (itemsT x.val).length ≤ 60 := by decide +kernel
  exact h ⟨f, by omega⟩
theorem modeT_len8 (m : Nat) (si : Bool) : (modeT m si).length ≤ 13 := by
  unfold modeT silB
  repeat' split
  all_goals decide
theorem printL_len8 {l : List R} (hb : ∀ r ∈ l, r.1 ≤ 4294967295 ∧ r.2 ≤ 4294967295) : (printL l).length ≤ 22 * l.length := by
  have := printL_len l hb l.length (Nat.le_refl _)
  rwa [List.take_length] at this
theorem bsz (l : List UInt8) : (ByteArray.mk l.toArray).size = l.length := by show l.toArray.size = _; simp
theorem bapp (a b : List UInt8) : ByteArray.mk a.toArray ++ ByteArray.mk b.toArray = ByteArray.mk (a ++ b).toArray := by
  apply ByteArray.ext
  simp [ByteArray.data_append]
theorem bsp (a : List UInt8) : ByteArray.mk a.toArray ++ spB = ByteArray.mk (a ++ [32]).toArray := bapp a [32]
end Go.Proofs.YtpgfnlhfciacoaaGreatDoor
