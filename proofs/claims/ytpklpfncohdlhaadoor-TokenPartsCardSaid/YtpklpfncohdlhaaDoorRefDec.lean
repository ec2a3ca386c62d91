/- The reference's Decimal and Number. -/
import Derived.Test.YtpklpfncohdlhaaDoorDecMath
namespace Go.Proofs.YtpklpfncohdlhaaDoor
open Go.RowKit
open Go.Lib hiding intOf

set_option maxRecDepth 100000 in
set_option maxHeartbeats 400000 in
theorem refDecimal_any (u : Nat) (hu : u ≤ 4294967295) (w : World) :
    Calls Tryd.prog 62 #[.int .u32 u] w fun e w' => e = .returned (.string ⟨(decDigits u).toArray⟩) ∧ w = w' := by
  go_enter Tryd.func62, Tryd.ntmps62
  go_wp2_with fail
  go_loop [0, 3] (fun n s => ∃ (m : Nat) (acc : List UInt8), m ≤ u ∧ n = .int .u32 m ∧ s = .string ⟨acc.toArray⟩ ∧ decDigits m ++ acc = decDigits u) (fun n _ => (intOf n).toNat)
  case atStart => exact ⟨u, [], Nat.le_refl _, rfl, rfl, by simp⟩
  case round =>
    obtain ⟨m, acc, hm, rfl, rfl, he⟩ := hrel
    have HE := Lib.hid he
    clear he
    have hal : acc.length ≤ 10 := by
      have h1 := congrArg List.length HE.out
      have h2 := dec_len hu
      rw [List.length_append] at h1
      omega
    by_cases hlt : 10 ≤ m
    · go_wp2_with fail
      go_round
      case rel => exact ⟨m / 10, _, by omega, by go_num, congrArg Value.string (dec_front (m % 10) (by omega) acc), dec_step HE.out hlt⟩
      case measure => simp [intOf]; omega
    · go_wp2_with fail
      go_ret
      exact ⟨by rw [← dec_last HE.out hlt, ← dec_front m (by omega) acc]; rfl, rfl⟩
end Go.Proofs.YtpklpfncohdlhaaDoor
