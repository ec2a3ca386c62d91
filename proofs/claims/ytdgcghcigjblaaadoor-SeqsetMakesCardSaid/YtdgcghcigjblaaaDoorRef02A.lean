/- The reference of layer 2: real, Valid, Has. -/
import Derived.Test.YtdgcghcigjblaaaDoorSlR
import Derived.Test.YtdgcghcigjblaaaDoorSeqMath
namespace Go.Proofs.YtdgcghcigjblaaaDoor
open Go.RowKit

theorem real_any (top n : Nat) (w : World) :
    Calls Tryd.prog 36 #[.int .u32 top, .int .u32 n] w fun e w' => e = .returned (.int .u32 (realN top n)) ∧ w = w' := by
  unfold realN
  by_cases h0 : n = 0
  · subst h0
    go_enter Tryd.func36, Tryd.ntmps36
    go_wp2
    go_ret
    exact ⟨rfl, rfl⟩
  · have h3 : ¬ (n : Int) = 0 := by omega
    rw [if_neg h0]
    go_enter Tryd.func36, Tryd.ntmps36
    go_wp2
    go_ret
    exact ⟨rfl, rfl⟩

set_option maxHeartbeats 1000000 in
theorem refValid_any (top : Nat) (A : Option Addr) (c : Nat) (l : List R) (hn : l.length ≤ 1000000000) (w : World) (hS : SlAt encR 2 w A l) :
    Calls Tryd.prog 14 #[.int .u32 top, .slice A l.length c] w fun e w' => e = .returned (.bool (vldL top l)) ∧ w = w' := by
  go_enter Tryd.func14, Tryd.ntmps14
  go_wp2
  go_loop [5] (fun i => ∃ k : Nat, k ≤ l.length ∧ i = .int .i64 k ∧ (l.take k).all (fun r => decide (max r.1 r.2 ≤ top)) = true) (fun i => l.length - (intOf i).toNat)
  case atStart => exact ⟨0, Nat.zero_le _, rfl, by simp⟩
  case round =>
    obtain ⟨k, hk, rfl, hall⟩ := hrel
    have HA := Lib.hid hall
    clear hall
    by_cases hlt : k < l.length
    · obtain ⟨b, off, rfl, hb, hc0, hc1⟩ := hS.pair hlt
      have HQ := Lib.hid (all_take_succ l (fun r => decide (max r.1 r.2 ≤ top)) k hlt)
      have HF := Lib.hid (all_false_at l (fun r => decide (max r.1 r.2 ≤ top)) k hlt)
      clear hS
      generalize l[k] = r at *
      obtain ⟨x, y⟩ := r
      by_cases h1 : top < x
      · go_wp2
        go_ret
        exact ⟨by unfold vldL; rw [HF.out (by simp; omega)]; simp, rfl⟩
      · by_cases h2 : top < y
        · go_wp2
          go_ret
          exact ⟨by unfold vldL; rw [HF.out (by simp; omega)]; simp, rfl⟩
        · go_wp2
          go_round
          case rel => exact ⟨k + 1, by omega, by go_num, by rw [HQ.out, HA.out]; simp; omega⟩
          case measure => simp [intOf]; omega
    · obtain rfl : k = l.length := by omega
      have HT : l.all (fun r => decide (max r.1 r.2 ≤ top)) = true := by have := HA.out; rwa [List.take_length] at this
      clear HA
      have HV : vldL top l = (decide (0 < top) && decide (0 < l.length)) := by
        unfold vldL; rw [HT]; cases l <;> simp
      clear HT
      have HV := Lib.hid HV
      by_cases h0 : 0 < l.length <;> by_cases h1 : 0 < top
      all_goals
        go_wp2
        go_ret
        exact ⟨by first | rfl | (rw [HV.out]; simp [h0, h1]), rfl⟩

set_option maxHeartbeats 2000000 in
theorem refHas_any (top n : Nat) (A : Option Addr) (c : Nat) (l : List R) (hn : l.length ≤ 1000000000) (w : World) (hS : SlAt encR 2 w A l) :
    Calls Tryd.prog 19 #[.int .u32 top, .int .u32 n, .slice A l.length c] w fun e w' => e = .returned (.bool (hasL top n l)) ∧ w = w' := by
  have V := Lib.hid (refValid_any top A c l hn w hS)
  have RR := fun x => Lib.hid (real_any top x w)
  unfold hasL
  cases hv : vldL top l with
  | false =>
    rw [hv] at V
    go_enter Tryd.func19, Tryd.ntmps19
    go_wp2_with fail
    refine V.out.mono ?_
    rintro e w1 ⟨rfl, rfl⟩
    go_wp2_with fail
    go_ret
    exact ⟨rfl, rfl⟩
  | true =>
    rw [hv] at V
    rw [Bool.true_and]
    clear hv
    go_enter Tryd.func19, Tryd.ntmps19
    go_wp2_with fail
    refine V.out.mono ?_
    rintro e w1 ⟨rfl, rfl⟩
    clear V
    go_wp2_with fail
    go_loop [7] (fun i => ∃ k : Nat, k ≤ l.length ∧ i = .int .i64 k ∧ (l.take k).any (hasR top n) = false) (fun i => l.length - (intOf i).toNat)
    case atStart => exact ⟨0, Nat.zero_le _, rfl, by simp⟩
    case round =>
      obtain ⟨k, hk, rfl, hall⟩ := hrel
      have HA := Lib.hid hall
      clear hall
      by_cases hlt : k < l.length
      · obtain ⟨b, off, rfl, hb, hc0, hc1⟩ := hS.pair hlt
        have HQ := Lib.hid (any_take_succ l (hasR top n) k hlt)
        have HF := Lib.hid (any_true_at l (hasR top n) k hlt)
        clear hS
        generalize l[k] = r at *
        obtain ⟨x, y⟩ := r
        have R1 := RR x
        have R2 := RR y
        have HR := Lib.hid (show hasR top n (x, y) = (decide (min (realN top x) (realN top y) ≤ n) && decide (n ≤ max (realN top x) (realN top y))) from rfl)
        clear RR
        generalize realN top x = p at *
        generalize realN top y = q at *
        go_wp2_with fail
        refine R1.out.mono ?_
        rintro e w1 ⟨rfl, rfl⟩
        go_wp2_with fail
        refine R2.out.mono ?_
        rintro e w1 ⟨rfl, rfl⟩
        clear R1 R2
        have hpq : (p < q ∧ min p q = p ∧ max p q = q ∧ ¬ q < p) ∨ p = q ∨ (q < p ∧ min p q = q ∧ max p q = p ∧ ¬ p < q) := by omega
        rcases hpq with ⟨g1, g2, g3, g4⟩ | rfl | ⟨g1, g2, g3, g4⟩
        · rw [g2, g3] at HR
          clear g2 g3
          by_cases h1 : p ≤ n <;> by_cases h2 : n ≤ q
          · have hp := Lib.hid (HF.out (by rw [HR.out]; simp [h1, h2]))
            clear HQ HF HR HA
            go_wp2
            all_goals
              go_ret
              exact ⟨by first | rfl | (rw [hp.out]; rfl), rfl⟩
          all_goals
            have hp := Lib.hid (HQ.out.trans (by rw [HA.out, HR.out]; simp [h1, h2] : _ = false))
            clear HQ HF HR HA
            go_wp2
            all_goals
              go_round
              case rel => exact ⟨k + 1, by omega, by go_num, hp.out⟩
              case measure => simp [intOf]; omega
        · simp only [Nat.min_self, Nat.max_self] at HR
          by_cases h1 : p ≤ n <;> by_cases h2 : n ≤ p
          · have hp := Lib.hid (HF.out (by rw [HR.out]; simp [h1, h2]))
            clear HQ HF HR HA
            go_wp2
            all_goals
              go_ret
              exact ⟨by first | rfl | (rw [hp.out]; rfl), rfl⟩
          all_goals
            have hp := Lib.hid (HQ.out.trans (by rw [HA.out, HR.out]; simp [h1, h2] : _ = false))
            clear HQ HF HR HA
            go_wp2
            all_goals
              go_round
              case rel => exact ⟨k + 1, by omega, by go_num, hp.out⟩
              case measure => simp [intOf]; omega
        · rw [g2, g3] at HR
          clear g2 g3
          by_cases h1 : q ≤ n <;> by_cases h2 : n ≤ p
          · have hp := Lib.hid (HF.out (by rw [HR.out]; simp [h1, h2]))
            clear HQ HF HR HA
            go_wp2
            all_goals
              go_ret
              exact ⟨by first | rfl | (rw [hp.out]; rfl), rfl⟩
          all_goals
            have hp := Lib.hid (HQ.out.trans (by rw [HA.out, HR.out]; simp [h1, h2] : _ = false))
            clear HQ HF HR HA
            go_wp2
            all_goals
              go_round
              case rel => exact ⟨k + 1, by omega, by go_num, hp.out⟩
              case measure => simp [intOf]; omega
      · obtain rfl : k = l.length := by omega
        have HT : l.any (hasR top n) = false := by have := HA.out; rwa [List.take_length] at this
        have HT := Lib.hid HT
        clear HA RR
        go_wp2
        go_ret
        exact ⟨by first | rfl | (rw [HT.out]; rfl), rfl⟩
end Go.Proofs.YtdgcghcigjblaaaDoor
