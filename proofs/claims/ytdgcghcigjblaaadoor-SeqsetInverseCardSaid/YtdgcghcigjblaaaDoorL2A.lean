/- The walks of the laws SeqsetHas, SeqsetNumbers. -/
import Derived.Test.YtdgcghcigjblaaaDoorAlive2
import Derived.Test.YtdgcghcigjblaaaDoorRef02B
namespace Go.Proofs.YtdgcghcigjblaaaDoor
open Go.RowKit

theorem few_any (A : Option Addr) (n c : Nat) (hn : n ≤ maxLen) (w : World) :
    Calls Tryd.prog 7 #[.slice A n c] w fun e w' => e = .returned (.bool (decide (n ≤ 60))) ∧ w = w' := by
  unfold maxLen at hn
  by_cases h : n ≤ 60
  all_goals
    go_enter Tryd.func7, Tryd.ntmps7
    go_wp2
    go_ret
    exact ⟨by simp [h]; omega, rfl⟩

theorem hasL_in {top n : Nat} {l : List R} (ht : top ≤ 4294967295) (h : hasL top n l = true) : 1 ≤ n ∧ n ≤ top := by
  have hv : vldL top l = true := by unfold hasL at h; rw [Bool.and_eq_true] at h; exact h.1
  have hx := (hasL_iff hv n).1 h
  obtain ⟨r, hr, h1, h2⟩ := hx
  obtain ⟨q, hq, rfl⟩ := List.mem_map.1 hr
  obtain ⟨f1, _, f3⟩ := vldL_facts hv
  obtain ⟨g1, g2⟩ := bnd_ok f1 ht (f3 q hq)
  unfold okR at g1
  omega

set_option maxRecDepth 100000 in
set_option maxHeartbeats 2000000 in
theorem seqsetHas_any (top : Nat) (ht : top ≤ 4294967295) (n : Nat) (_hn : n ≤ 4294967295) (A : Option Addr) (c : Nat) (l : List R) (hl : l.length ≤ maxLen) (_hb : ∀ r ∈ l, r.1 ≤ 4294967295 ∧ r.2 ≤ 4294967295) (w : World) (henv : Env w) (hS : SlAt encR 2 w A l) :
    Calls Tryd.prog 5 #[.int .u32 top, .int .u32 n, .slice A l.length c] w fun e w' => e = .returned (.bool true) ∧ Below w.heap.size w w' := by
  have L := Lib.hid (alive2_any w henv)
  have FW := Lib.hid (few_any A l.length c hl w)
  clear henv
  by_cases h60 : l.length ≤ 60
  · have hn : l.length ≤ 1000000000 := by omega
    have V := fun w1 (hB : Below w.heap.size w w1) => Lib.hid (valid_any top A c l hn w1 (hS.below hB))
    have RV := fun w1 (hB : Below w.heap.size w w1) => Lib.hid (refValid_any top A c l hn w1 (hS.below hB))
    have H := fun w1 (hB : Below w.heap.size w w1) => Lib.hid (has_any2 top n A c l hn w1 (hS.below hB))
    have RH := fun w1 (hB : Below w.heap.size w w1) => Lib.hid (refHas_any top n A c l hn w1 (hS.below hB))
    have HI := Lib.hid (fun h : hasL top n l = true => hasL_in ht h)
    rw [decide_eq_true h60] at FW
    clear hS hn
    have hcase : ∃ b, hasL top n l = b := ⟨_, rfl⟩
    obtain ⟨b, hb⟩ := hcase
    rw [hb] at H RH HI
    generalize vldL top l = v at *
    clear hb
    cases b with
    | true =>
      have hin := HI.out rfl
      have hi1 : 1 ≤ n := hin.1
      have hi2 : n ≤ top := hin.2
      clear hin HI
      go_enter Tryd.func5, Tryd.ntmps5
      go_wp2_with fail
      refine FW.out.mono ?_
      rintro e w1 ⟨rfl, rfl⟩
      go_wp2_with fail
      refine L.out.mono ?_
      rintro e w1 ⟨rfl, hB⟩
      clear L FW
      go_wp2_with fail
      refine (H _ hB).out.mono ?_
      rintro e w2 ⟨rfl, h2⟩
      replace hB := below_next hB h2
      clear h2
      go_wp2_with fail
      refine (RH _ hB).out.mono ?_
      rintro e w3 ⟨rfl, rfl⟩
      go_wp2_with fail
      refine (V _ hB).out.mono ?_
      rintro e w3 ⟨rfl, h2⟩
      replace hB := below_next hB h2
      clear h2
      go_wp2_with fail
      refine (RV _ hB).out.mono ?_
      rintro e w4 ⟨rfl, rfl⟩
      go_wp2_with fail
      refine (H _ hB).out.mono ?_
      rintro e w4 ⟨rfl, h2⟩
      replace hB := below_next hB h2
      clear h2 H RH V RV
      go_wp2_with fail
      go_ret
      exact ⟨rfl, hB⟩
    | false =>
      clear HI
      go_enter Tryd.func5, Tryd.ntmps5
      go_wp2_with fail
      refine FW.out.mono ?_
      rintro e w1 ⟨rfl, rfl⟩
      go_wp2_with fail
      refine L.out.mono ?_
      rintro e w1 ⟨rfl, hB⟩
      clear L FW
      go_wp2_with fail
      refine (H _ hB).out.mono ?_
      rintro e w2 ⟨rfl, h2⟩
      replace hB := below_next hB h2
      clear h2
      go_wp2_with fail
      refine (RH _ hB).out.mono ?_
      rintro e w3 ⟨rfl, rfl⟩
      go_wp2_with fail
      refine (V _ hB).out.mono ?_
      rintro e w3 ⟨rfl, h2⟩
      replace hB := below_next hB h2
      clear h2
      go_wp2_with fail
      refine (RV _ hB).out.mono ?_
      rintro e w4 ⟨rfl, rfl⟩
      go_wp2_with fail
      refine (H _ hB).out.mono ?_
      rintro e w4 ⟨rfl, h2⟩
      replace hB := below_next hB h2
      clear h2 H RH V RV
      go_wp2_with fail
      go_ret
      exact ⟨rfl, hB⟩
  · rw [decide_eq_false h60] at FW
    clear hS
    go_enter Tryd.func5, Tryd.ntmps5
    go_wp2_with fail
    refine FW.out.mono ?_
    rintro e w1 ⟨rfl, rfl⟩
    go_wp2_with fail
    refine L.out.mono ?_
    rintro e w1 ⟨rfl, hB⟩
    clear L FW
    go_wp2_with fail
    go_ret
    exact ⟨rfl, hB⟩

set_option maxRecDepth 100000 in
set_option maxHeartbeats 2000000 in
theorem seqsetNumbers_any (top : Nat) (ht : top ≤ 65535) (A : Option Addr) (c : Nat) (l : List R) (hl : l.length ≤ maxLen) (_hb : ∀ r ∈ l, r.1 ≤ 4294967295 ∧ r.2 ≤ 4294967295) (w : World) (henv : Env w) (hS : SlAt encR 2 w A l) :
    Calls Tryd.prog 4 #[.int .u16 top, .slice A l.length c] w fun e w' => e = .returned (.bool true) ∧ Below w.heap.size w w' := by
  have L := Lib.hid (alive2_any w henv)
  have FW := Lib.hid (few_any A l.length c hl w)
  clear henv
  by_cases h60 : l.length ≤ 60
  · rw [decide_eq_true h60] at FW
    by_cases h300 : top ≤ 300
    · have hn : l.length ≤ 1000000000 := by omega
      have V := fun w1 (hB : Below w.heap.size w w1) => Lib.hid (valid_any top A c l hn w1 (hS.below hB))
      have RV := fun w1 (hB : Below w.heap.size w w1) => Lib.hid (refValid_any top A c l hn w1 (hS.below hB))
      have hle : (numsL top l).length ≤ top := numsK_len top l top
      have RN := fun w1 (hB : Below w.heap.size w w1) => Lib.hid (show Calls Tryd.prog 17 #[.int .u32 top, .slice A l.length c] w1 (fun e w' => ∃ A' c', e = .returned (.slice A' (numsL top l).length c') ∧ SlAt encU 1 w' A' (numsL top l) ∧ Below w1.heap.size w1 w') from
        (refNumbers_any top (by omega) A c l hn w1 (hS.below hB)).mono (by
          rintro e w' ⟨v, he, ho, hb⟩
          obtain ⟨A', c', rfl⟩ := own_any ho
          exact ⟨A', c', he, SlAt.of_own encU_len (by rw [flatU]; exact ho), hb⟩))
      have NN := fun w1 (hB : Below w.heap.size w w1) => Lib.hid (show Calls Tryd.prog 16 #[.int .u32 top, .slice A l.length c] w1 (fun e w' => ∃ A' c', e = .returned (.slice A' (numsL top l).length c') ∧ SlAt encU 1 w' A' (numsL top l) ∧ Below w1.heap.size w1 w') from by
        cases hv : vldL top l with
        | true =>
          refine (numbers_ok top (by omega) A c l hn hv (by omega) w1 (hS.below hB)).mono ?_
          rintro e w' ⟨v, he, ho, hb⟩
          obtain ⟨A', c', rfl⟩ := own_any ho
          exact ⟨A', c', he, SlAt.of_own encU_len (by rw [flatU]; exact ho), hb⟩
        | false =>
          rw [numsL_bad hv]
          refine (numbers_bad top A c l hn hv w1 (hS.below hB)).mono ?_
          rintro e w' ⟨he, hb⟩
          exact ⟨none, 0, he, .inl rfl, hb⟩)
      have EQ := fun A1 c1 A2 c2 w1 h1 h2 => Lib.hid (equalU_any A1 A2 c1 c2 (numsL top l) (numsL top l) (by omega) (by omega) w1 h1 h2)
      simp only [decide_true] at EQ
      clear hS hn hle
      generalize numsL top l = q at *
      generalize vldL top l = v at *
      go_enter Tryd.func4, Tryd.ntmps4
      go_wp2_with fail
      refine FW.out.mono ?_
      rintro e w1 ⟨rfl, rfl⟩
      go_wp2_with fail
      refine L.out.mono ?_
      rintro e w1 ⟨rfl, hB⟩
      clear L FW
      go_wp2_with fail
      refine (V _ hB).out.mono ?_
      rintro e w2 ⟨rfl, h2⟩
      replace hB := below_next hB h2
      clear h2
      go_wp2_with fail
      refine (RV _ hB).out.mono ?_
      rintro e w3 ⟨rfl, rfl⟩
      clear V RV
      go_wp2_with fail
      refine (NN _ hB).out.mono ?_
      rintro e w3 ⟨A1, c1, rfl, hS1, h2⟩
      replace hB := below_next hB h2
      have HS1 := Lib.hid hS1
      clear h2 NN hS1
      go_wp2_with fail
      refine (RN _ hB).out.mono ?_
      rintro e w4 ⟨A2, c2, rfl, hS2, h2⟩
      replace hB := below_next hB h2
      have EQ := EQ A1 c1 A2 c2 _ (HS1.out.below h2) hS2
      clear h2 RN hS2 HS1
      go_wp2_with fail
      refine EQ.out.mono ?_
      rintro e w5 ⟨rfl, h2⟩
      replace hB := below_next hB h2
      clear h2 EQ
      go_wp2_with fail
      go_ret
      exact ⟨rfl, hB⟩
    · clear hS
      go_enter Tryd.func4, Tryd.ntmps4
      go_wp2_with fail
      refine FW.out.mono ?_
      rintro e w1 ⟨rfl, rfl⟩
      go_wp2_with fail
      refine L.out.mono ?_
      rintro e w1 ⟨rfl, hB⟩
      clear L FW
      go_wp2_with fail
      go_ret
      exact ⟨rfl, hB⟩
  · rw [decide_eq_false h60] at FW
    clear hS
    go_enter Tryd.func4, Tryd.ntmps4
    go_wp2_with fail
    refine FW.out.mono ?_
    rintro e w1 ⟨rfl, rfl⟩
    go_wp2_with fail
    refine L.out.mono ?_
    rintro e w1 ⟨rfl, hB⟩
    clear L FW
    go_wp2_with fail
    go_ret
    exact ⟨rfl, hB⟩
end Go.Proofs.YtdgcghcigjblaaaDoor
