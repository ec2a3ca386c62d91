/- slices.Equal at bytes. -/
import Derived.Test.YthdbbappojkmoaaGreatHc
import Derived.Deep.QuietTactic
import Derived.BigQuiet
namespace Go.Proofs.YthdbbappojkmoaaGreat
open Go.RowKit

theorem drewN_belowE (w : World) (n : Nat) : Below w.heap.size w (w.drewN n) := ⟨rfl, rfl, rfl, Nat.le_refl _, fun _ _ => rfl⟩
theorem eq_snoc {l m : List UInt8} {k : Nat} (h : l.take k = m.take k) (h1 : k < l.length) (h2 : k < m.length) (he : l[k] = m[k]) : l.take (k + 1) = m.take (k + 1) := by
  rw [List.take_succ_eq_append_getElem h1, List.take_succ_eq_append_getElem h2, h, he]
theorem eq_not {l m : List UInt8} {k : Nat} (h1 : k < l.length) (h2 : k < m.length) (he : l[k] ≠ m[k]) : l ≠ m := fun e => by subst e; exact he rfl

set_option maxRecDepth 100000 in
set_option maxHeartbeats 1000000 in
theorem equalB_any (B1 B2 : Nat) (A A2 : Option Addr) (c d n n2 : Nat) (l m : List UInt8) (hn : l.length = n) (hn2 : m.length = n2) (hl : n ≤ 1000000000) (hm : n2 ≤ 1000000000) (w : World) (h1 : ByAt B1 w A c l) (h2 : ByAt B2 w A2 d m) :
    Calls Tryz.prog 20 #[.slice A n c, .slice A2 n2 d] w fun e w' => e = .returned (.bool (decide (l = m))) ∧ Below w.heap.size w w' := by
  by_cases hlen : n = n2
  · subst hlen
    have H1 := Lib.hid h1
    have H2 := Lib.hid h2
    have HN := Lib.hid hn
    have HN2 := Lib.hid hn2
    obtain ⟨t, ht⟩ : ∃ t, decide (l = m) = t := ⟨_, rfl⟩
    rw [ht]
    have HT := Lib.hid ht
    clear h1 h2 ht hn hn2
    go_enter Tryz.func20, Tryz.ntmps20
    go_wp2_with fail
    go_loopw [13] (fun i wr => ∃ k : Nat, k ≤ n ∧ i = .int .i64 (k : Int) ∧ Hid (l.take k = m.take k) ∧ Below w.heap.size w wr) (fun i _ => n - (intOf i).toNat)
    case atStart => exact ⟨0, Nat.zero_le _, rfl, rfl, Below.refl _ _⟩
    case round =>
      obtain ⟨k, hk, rfl, hE, hB⟩ := hrel
      by_cases hlt : k < n
      · obtain ⟨b, off, rfl, _, _, hc⟩ := (H1.out.grow hB).cell (j := k) (by rw [HN.out]; exact hlt)
        obtain ⟨b2, off2, rfl, _, _, hc2⟩ := (H2.out.grow hB).cell (j := k) (by rw [HN2.out]; exact hlt)
        have hk0 : (0 : Int) ≤ (k : Int) := by omega
        have hk1 : (k : Int) < (n : Int) := by omega
        by_cases he : l[k]'(by rw [HN.out]; exact hlt) = m[k]'(by rw [HN2.out]; exact hlt)
        · have HS := Lib.hid (eq_snoc hE.out (by rw [HN.out]; exact hlt) (by rw [HN2.out]; exact hlt) he)
          rw [← he] at hc2
          clear he
          generalize l[k]'(by rw [HN.out]; exact hlt) = x at *
          go_wp2_with fail
          go_quiet (fail)
          go_wp2_with fail
          go_roundw
          case rel => exact ⟨k + 1, by omega, by go_num, HS.out, below_next hB (drewN_belowE _ _)⟩
          case measure => simp [intOf]; omega
        · have HS := Lib.hid (show t = false by rw [← HT.out]; exact decide_eq_false (eq_not (by rw [HN.out]; exact hlt) (by rw [HN2.out]; exact hlt) he))
          have hne : ((l[k]'(by rw [HN.out]; exact hlt)).toNat : Int) ≠ ((m[k]'(by rw [HN2.out]; exact hlt)).toNat : Int) := fun e => he (UInt8.toNat_inj.1 (by omega))
          have f1 : (((l[k]'(by rw [HN.out]; exact hlt)).toNat : Int) != ((m[k]'(by rw [HN2.out]; exact hlt)).toNat : Int)) = true := by simpa using hne
          have f2 : (((l[k]'(by rw [HN.out]; exact hlt)).toNat : Int) == ((m[k]'(by rw [HN2.out]; exact hlt)).toNat : Int)) = false := by simpa using hne
          clear he hne
          generalize (l[k]'(by rw [HN.out]; exact hlt)).toNat = x at *
          generalize (m[k]'(by rw [HN2.out]; exact hlt)).toNat = y at *
          go_wp2_with fail
          go_quiet (fail)
          go_wp2_with fail
          go_ret
          exact ⟨ret_bool HS.out.symm, below_next hB (drewN_belowE _ _)⟩
      · obtain rfl : k = n := by omega
        have HS := Lib.hid (show t = true by
          rw [← HT.out]
          have := hE.out
          rw [List.take_of_length_le (by rw [HN.out]; exact Nat.le_refl _), List.take_of_length_le (by rw [HN2.out]; exact Nat.le_refl _)] at this
          exact decide_eq_true this)
        go_wp2_with fail
        go_ret
        exact ⟨ret_bool HS.out.symm, hB⟩
  · have hne : l ≠ m := fun e => hlen (by rw [← hn, ← hn2, e])
    rw [decide_eq_false hne]
    have hi : ¬ (n : Int) = (n2 : Int) := by omega
    clear h1 h2 hne hn hn2
    go_enter Tryz.func20, Tryz.ntmps20
    go_wp2_with fail
    go_ret
    exact ⟨rfl, Below.refl _ _⟩
end Go.Proofs.YthdbbappojkmoaaGreat
