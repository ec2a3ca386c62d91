/- The class of text bytes alone: classOf, its closure, Text; and the reference's. -/
import Derived.Test.YtpklpfncohdlhaaDoorEnv
import Derived.Test.YtpklpfncohdlhaaDoorCharMath
import Derived.Laws.EntriesVeiled
namespace Go.Proofs.YtpklpfncohdlhaaDoor
open Go.RowKit

theorem classOf_any (a b c d : Int) (w : World) :
    Calls Tryd.prog 38 #[.agg #[.int .u64 a, .int .u64 b, .int .u64 c, .int .u64 d]] w fun e w' =>
      e = .returned (.agg #[.func (Fn.func 52) #[] #[.pointer (some ⟨w.heap.size, 0, none⟩)]]) ∧
      (w.alloc (.cells #[.int .u64 a, .int .u64 b, .int .u64 c, .int .u64 d] 72)).alloc (.cells #[.func (Fn.func 52) #[] #[.pointer (some ⟨w.heap.size, 0, none⟩)]] 68) = w' := by
  go_enter Tryd.func38, Tryd.ntmps38
  go_wp2
  exact bodyPost_ret (v := .agg #[.func (Fn.func 52) #[] #[.pointer (some ⟨w.heap.size, 0, none⟩)]]) (by simp [results, Tryd.results38, go_sem]) rfl ⟨rfl, rfl⟩

set_option maxRecDepth 100000 in
theorem has_any (n : Nat) (x : Int) (b : Nat) (w : World) (h1 : n ≤ 255) (hc : w.cell? ⟨b, n / 64, none⟩ = some (.int .u64 x)) :
    Calls Tryd.prog 52 #[.int .u8 n, .pointer (some ⟨b, 0, none⟩)] w fun e w' => e = .returned (.bool (bits BinOp.and IntKind.u64 (x / 2 ^ (n % 64)) 1 == 1)) ∧ w = w' := by
  go_enter Tryd.func52, Tryd.ntmps52
  go_wp2
  go_ret
  exact ⟨rfl, rfl⟩

/-- The four words of a class lie in the first of its two blocks. -/
theorem word_at (a b c d : Int) (v : Value) (t u : TypeId) (w : World) (n : Nat) (h1 : n ≤ 255) :
    ((w.alloc (.cells #[.int .u64 a, .int .u64 b, .int .u64 c, .int .u64 d] t)).alloc (.cells #[v] u)).cell? ⟨w.heap.size, n / 64, none⟩ = some (.int .u64 (if n / 64 = 0 then a else if n / 64 = 1 then b else if n / 64 = 2 then c else d)) := by
  have hn : n / 64 < 4 := by omega
  generalize n / 64 = k at hn
  rw [World.cell?_alloc_old _ _ _ (by simp)]
  rw [World.cell?_alloc_new]
  match k, hn with
  | 0, _ => rfl
  | 1, _ => rfl
  | 2, _ => rfl
  | 3, _ => rfl

theorem field_has (b : Nat) (w : World) : (Instr.field 68 (.agg #[.func (Fn.func 52) #[] #[.pointer (some ⟨b, 0, none⟩)]]) 0).run Tryd.prog w = .ok (.func (Fn.func 52) #[] #[.pointer (some ⟨b, 0, none⟩)]) w := by kernel_rfl

theorem below_two (w : World) (o1 o2 : Obj) : Below w.heap.size w ((w.alloc o1).alloc o2) := ((Below.refl _ _).alloc (Nat.le_refl _) _).alloc (by simp) _

set_option maxRecDepth 100000 in
theorem text_any (n : Nat) (w : World) (h1 : n ≤ 255) :
    Calls Tryd.prog 55 #[.int .u8 n] w fun e w' => e = .returned (.bool (textN n)) ∧ Below w.heap.size w w' := by
  have H0 := has_any n _ _ _ h1 (word_at 18446744073709542398 18446744073709551615 0 0 (.func (Fn.func 52) #[] #[.pointer (some ⟨w.heap.size, 0, none⟩)]) 72 68 w n h1)
  have hb : bitAt 18446744073709542398 18446744073709551615 0 0 n = textN n := text_bit ⟨n, by omega⟩
  unfold bitAt at hb
  rw [hb] at H0
  have H := Lib.hid H0
  clear H0 hb
  have hf := fun (b : Nat) W => field_has b W
  go_enter Tryd.func55, Tryd.ntmps55
  go_wp2_with (first | (go_at_call 38; refine (classOf_any _ _ _ _ _).mono ?_; rintro e w' ⟨rfl, rfl⟩) | (go_at_call 52; refine H.out.mono ?_; rintro e w' ⟨rfl, rfl⟩))
  go_ret
  exact ⟨rfl, below_two _ _ _⟩

set_option maxRecDepth 100000 in
theorem refText_any (n : Nat) (w : World) (h1 : n ≤ 255) :
    Calls Tryd.prog 45 #[.int .u8 n] w fun e w' => e = .returned (.bool (textN n)) ∧ w = w' := by
  by_cases h0 : 0 < n
  · by_cases h128 : n < 128
    · by_cases h10 : n = 10
      · subst h10
        go_enter Tryd.func45, Tryd.ntmps45
        go_wp2
        go_ret
        exact ⟨rfl, rfl⟩
      · by_cases h13 : n = 13
        · subst h13
          go_enter Tryd.func45, Tryd.ntmps45
          go_wp2
          go_ret
          exact ⟨rfl, rfl⟩
        · have R := Lib.hid (show true = textN n by unfold textN; simp; omega)
          go_enter Tryd.func45, Tryd.ntmps45
          go_wp2
          go_ret
          exact ⟨ret_bool (by rw [← R.out]; simp; omega), rfl⟩
    · have R := Lib.hid (show false = textN n by unfold textN; simp; omega)
      go_enter Tryd.func45, Tryd.ntmps45
      go_wp2
      go_ret
      exact ⟨ret_bool R.out, rfl⟩
  · obtain rfl : n = 0 := by omega
    go_enter Tryd.func45, Tryd.ntmps45
    go_wp2
    go_ret
    exact ⟨rfl, rfl⟩
end Go.Proofs.YtpklpfncohdlhaaDoor
