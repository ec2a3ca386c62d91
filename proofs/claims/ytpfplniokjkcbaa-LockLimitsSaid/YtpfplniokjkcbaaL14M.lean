/- The law LockLimits. -/
import Derived.Test.YtpfplniokjkcbaaL14Z
namespace Go.Proofs.Ytpfplniokjkcbaa
open Go.RowKit

theorem own_rep {n : Nat} (k : Int) : ownL (List.replicate n (-1)) k = -1 := by
  unfold ownL
  split
  · rfl
  · rw [List.getElem?_replicate]
    split <;> rfl
theorem held_rep (n : Nat) (o : Int) : heldL (List.replicate n (-1)) o = [] := by
  rw [List.eq_nil_iff_forall_not_mem]
  intro i hi
  obtain ⟨h0, h1, h2⟩ := mem_heldL.1 hi
  rw [List.getElem_replicate] at h2
  omega
theorem free_rep (n : Nat) : freeL (List.replicate n (-1)) = true := by
  unfold freeL
  rw [List.all_eq_true]
  intro x hx
  rw [(List.mem_replicate.1 hx).2]
  rfl
theorem acq_rep_out (n : Nat) : acqL (List.replicate n (-1)) 0 (n : Int) = (List.replicate n (-1), 2) := by
  unfold acqL
  rw [if_pos (by right; right; simp)]
theorem acq_rep_in {n : Nat} {o : Int} (ho : 0 ≤ o) {j : Nat} (hj : j < n) : (acqL (List.replicate n (-1)) o (j : Int)).2 = 0 := by
  unfold acqL
  rw [if_neg (by simp; omega), own_rep, if_neg (by omega), if_neg, if_neg (by omega)]
  rintro ⟨i, hi, _⟩
  rw [held_rep] at hi
  cases hi
set_option maxRecDepth 100000 in
set_option maxHeartbeats 4000000 in
theorem limits_in (n : Nat) (hn : n ≤ 65536) (w : World) :
    Calls Try.prog 7 #[.int .i64 (n : Int)] w fun e w' => e = .returned (.bool true) ∧ Below w.heap.size w w' := by
  have N := Lib.hid (lknew_any n hn w)
  have F1 := Lib.hid (free_rep n)
  have F2 := Lib.hid (acq_rep_out n)
  have LL := Lib.hid (show (List.replicate n (-1 : Int)).length = n from List.length_replicate)
  have F3 := Lib.hid (fun (h : 0 < n) => show (acqL (List.replicate n (-1)) 0 (((n - 1 : Nat) : Int))).2 = 0 from acq_rep_in (by omega) (by omega))
  have AL := Lib.hid (fun W => alive14_any W)
  have h1 : ¬ (131072 : Int) < (n : Int) := by omega
  have h2 : ¬ (n : Int) < -131072 := by omega
  have h3 : ¬ (n : Int) < 0 := by omega
  have h4 : ¬ (65536 : Int) < (n : Int) := by omega
  generalize List.replicate n (-1 : Int) = L at *
  go_enter Try.func7, Try.ntmps7
  go_wp2_with fail
  refine N.out.mono ?_
  rintro e w1 ⟨g, S, rfl, t1, s1, hb1⟩
  have T1 := Lib.hid (show LkE w.heap.size g L 0 w w1 from ⟨⟨S, t1, s1⟩, hb1, hb1.size⟩)
  clear t1 s1 hb1 N
  go_wp2_with fail
  refine (AL.out _).mono ?_
  rintro e w2 ⟨rfl, hb⟩
  have T2 := Lib.hid (T1.out.below hb)
  clear hb T1 AL
  obtain ⟨⟨Sx, tx, sx⟩, bx, zx⟩ := T2.out
  have C2 := lklen_any tx
  rw [LL.out] at C2
  have C2h := Lib.hid C2
  clear C2 tx sx bx zx
  go_wp2_with fail
  refine C2h.out.mono ?_
  rintro e w3 ⟨rfl, hb⟩
  have T3 := Lib.hid (T2.out.below hb)
  clear hb T2 C2h
  obtain ⟨⟨Sx, tx, sx⟩, bx, zx⟩ := T3.out
  have C3 := lkfree_any tx
  rw [F1.out] at C3
  have C3h := Lib.hid C3
  clear C3 tx sx bx zx
  go_wp2_with fail
  refine C3h.out.mono ?_
  rintro e w4 ⟨rfl, hb⟩
  have T4 := Lib.hid (T3.out.below hb)
  clear hb T3 C3h
  have C4 := T4.out.acq 0 (n : Int) (by omega) (by omega) (by omega)
  rw [F2.out] at C4
  simp only [show (2 : Int) = 0 ↔ False by decide, if_false] at C4
  have C4h := Lib.hid C4
  clear C4
  go_wp2_with fail
  refine C4h.out.mono ?_
  rintro e w5 ⟨rfl, t5⟩
  have T5 := Lib.hid t5
  clear t5 T4 C4h
  by_cases h0 : n = 0
  · have h0i : ((n : Int) == 0) = true := by simp [h0]
    clear h0
    go_wp2_with fail
    go_ret
    exact ⟨rfl, T5.out.2.1⟩
  · have h0i : ((n : Int) == 0) = false := by simp; omega
    have hsub : (n : Int) - 1 = ((n - 1 : Nat) : Int) := by omega
    have C5 := T5.out.acq 0 ((n - 1 : Nat) : Int) (by omega) (by omega) (by omega)
    rw [F3.out (by omega)] at C5
    rw [← hsub] at C5
    have C5h := Lib.hid C5
    clear C5 hsub h0
    go_wp2_with fail
    refine C5h.out.mono ?_
    rintro e w6 ⟨rfl, t6⟩
    have T6 := Lib.hid t6
    clear t6 C5h
    go_wp2_with fail
    go_ret
    exact ⟨rfl, T6.out.2.1⟩
set_option maxRecDepth 100000 in
set_option maxHeartbeats 1000000 in
theorem lockLimits_any (n : Int) (_ : -9223372036854775808 ≤ n ∧ n ≤ 9223372036854775807) (w : World) :
    Calls Try.prog 7 #[.int .i64 n] w fun e w' => e = .returned (.bool true) ∧ Below w.heap.size w w' := by
  have AL := Lib.hid (fun W => alive14_any W)
  by_cases h1 : 131072 < n
  · go_enter Try.func7, Try.ntmps7
    go_wp2_with fail
    refine (AL.out _).mono ?_
    rintro e w1 ⟨rfl, hb⟩
    go_wp2_with fail
    go_ret
    exact ⟨rfl, hb⟩
  · by_cases h2 : n < -131072
    · go_enter Try.func7, Try.ntmps7
      go_wp2_with fail
      refine (AL.out _).mono ?_
      rintro e w1 ⟨rfl, hb⟩
      go_wp2_with fail
      go_ret
      exact ⟨rfl, hb⟩
    · by_cases h3 : n < 0 ∨ 65536 < n
      · have N := Lib.hid (lknew_no n h3 w)
        rcases h3 with h3 | h3
        · go_enter Try.func7, Try.ntmps7
          go_wp2_with fail
          refine N.out.mono ?_
          rintro e w1 ⟨rfl, hb1⟩
          go_wp2_with fail
          refine (AL.out _).mono ?_
          rintro e w2 ⟨rfl, hb⟩
          have HF := below_next hb1 hb
          go_wp2_with fail
          go_ret
          exact ⟨rfl, HF⟩
        · have h4 : ¬ n < 0 := by omega
          go_enter Try.func7, Try.ntmps7
          go_wp2_with fail
          refine N.out.mono ?_
          rintro e w1 ⟨rfl, hb1⟩
          go_wp2_with fail
          refine (AL.out _).mono ?_
          rintro e w2 ⟨rfl, hb⟩
          have HF := below_next hb1 hb
          go_wp2_with fail
          go_ret
          exact ⟨rfl, HF⟩
      · obtain ⟨m, rfl⟩ : ∃ m : Nat, n = m := ⟨n.toNat, by omega⟩
        exact limits_in m (by omega) w
theorem lockLimits_law (n : Int) (h1 : -9223372036854775808 ≤ n) (h2 : n ≤ 9223372036854775807) (w : World) :
    Calls Try.prog 7 #[.int .i64 n] w fun e w' => e = .returned (.bool true) ∧ Below w.heap.size w w' := lockLimits_any n ⟨h1, h2⟩ w
end Go.Proofs.Ytpfplniokjkcbaa
