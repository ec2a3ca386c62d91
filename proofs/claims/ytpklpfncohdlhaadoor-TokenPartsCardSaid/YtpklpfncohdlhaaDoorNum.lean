/- The project's Number: two contracts. -/
import Derived.Test.YtpklpfncohdlhaaDoorDec
namespace Go.Proofs.YtpklpfncohdlhaaDoor
open Go.RowKit Go.Sort Go.Lib

set_option maxRecDepth 100000 in
theorem number_bad (s : ByteArray) (hlim : s.size ≤ 281474976710656) (w : World) (henv : Env w) (h : ∀ u, parseUintB 32 s.data.toList ≠ .ok u) :
    Calls Tryd.prog 74 #[.string s] w fun e w' => e = .returned (.tuple #[.int .u32 0, .bool false]) ∧ Below w.heap.size w w' := by
  have C := Lib.hid (parseUint_bad s hlim w henv h)
  clear henv h
  go_enter Tryd.func74, Tryd.ntmps74
  go_wp2_with (go_at_call 80; refine C.out.mono ?_; rintro e w' ⟨n, N, rfl, hb⟩)
  go_ret2
  exact ⟨rfl, hb⟩

set_option maxRecDepth 100000 in
theorem number_ok (s : ByteArray) (hlim : s.size ≤ 281474976710656) (w : World) (henv : Env w) (u : Nat) (h : parseUintB 32 s.data.toList = .ok u) (hu : u ≤ 4294967295) :
    Calls Tryd.prog 74 #[.string s] w fun e w' => e = .returned (.tuple #[.int .u32 (if decDigits u = s.data.toList then u else 0), .bool (decide (decDigits u = s.data.toList))]) ∧ Below w.heap.size w w' := by
  have C := Lib.hid (parseUint_ok s hlim u h w)
  clear h
  have D : ∀ w1, Below w.heap.size w w1 → Hid (Calls Tryd.prog 58 #[.int .u32 u] w1 fun e w' => e = .returned (.string ⟨(decDigits u).toArray⟩) ∧ Below w1.heap.size w1 w') := fun w1 hb => decimal_any u hu w1 (henv.below hb)
  clear henv
  by_cases hd : decDigits u = s.data.toList
  · rw [if_pos hd, decide_eq_true hd]
    have ht : (decDigits u == s.toList) = true := by rw [btl]; simpa using hd
    clear hd
    generalize decDigits u = l at *
    go_enter Tryd.func74, Tryd.ntmps74
    go_wp2_with (go_at_call 80; refine C.out.mono ?_; rintro e w' ⟨rfl, hb⟩)
    refine (D _ hb).out.mono ?_
    rintro e w2 ⟨rfl, hb2⟩
    go_wp2
    go_ret2
    exact ⟨rfl, below_next hb hb2⟩
  · rw [if_neg hd, decide_eq_false hd]
    have ht : (decDigits u == s.toList) = false := by rw [btl]; simpa using hd
    clear hd
    generalize decDigits u = l at *
    go_enter Tryd.func74, Tryd.ntmps74
    go_wp2_with (go_at_call 80; refine C.out.mono ?_; rintro e w' ⟨rfl, hb⟩)
    refine (D _ hb).out.mono ?_
    rintro e w2 ⟨rfl, hb2⟩
    go_wp2
    go_ret2
    exact ⟨rfl, below_next hb hb2⟩

/-- THE PROJECT's Number: the number whose decimal form the bytes are, or 0 and false. -/
theorem number_any (s : ByteArray) (hlim : s.size ≤ 281474976710656) (w : World) (henv : Env w) :
    Calls Tryd.prog 74 #[.string s] w fun e w' => e = .returned (.tuple #[.int .u32 ((numOf s.data.toList).getD 0 : Nat), .bool (numOf s.data.toList).isSome]) ∧ Below w.heap.size w w' := by
  rcases hp : parseUintB 32 s.data.toList with u | _ | _
  · have hu : u ≤ 4294967295 := by have := parseUintB_le hp; simpa using this
    have c := number_ok s hlim w henv u hp hu
    unfold numOf
    rw [hp]
    by_cases hd : decDigits u = s.data.toList
    · rw [if_pos hd, decide_eq_true hd] at c
      simpa [hd] using c
    · rw [if_neg hd, decide_eq_false hd] at c
      simpa [hd] using c
  · have c := number_bad s hlim w henv (by rw [hp]; intro u h; cases h)
    unfold numOf
    rw [hp]
    simpa using c
  · have c := number_bad s hlim w henv (by rw [hp]; intro u h; cases h)
    unfold numOf
    rw [hp]
    simpa using c
end Go.Proofs.YtpklpfncohdlhaaDoor
