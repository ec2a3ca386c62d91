/- The walk of the law CommandNames. -/
import Derived.Test.YthfopimgdikpgaaGreatDoorCmdAlive
import Derived.Test.YthfopimgdikpgaaGreatDoorRef07A
namespace Go.Proofs.YthfopimgdikpgaaGreatDoor
open Go.RowKit

theorem verb_up {k : Nat} (hk : 1 ≤ k ∧ k ≤ 8) : upL (verbB k) = verbB k := by
  have h2 : k = 1 ∨ k = 2 ∨ k = 3 ∨ k = 4 ∨ k = 5 ∨ k = 6 ∨ k = 7 ∨ k = 8 := by omega
  rcases h2 with rfl | rfl | rfl | rfl | rfl | rfl | rfl | rfl <;> decide
theorem kind_verb (k : Int) : kindL (verbZ k) = if 1 ≤ k ∧ k ≤ 8 then k.toNat else 0 := by
  unfold verbZ
  by_cases h : 1 ≤ k ∧ k ≤ 8
  · rw [if_pos h, if_pos h]
    unfold kindL
    rw [verb_up (by omega), kindU_verb (by omega)]
  · rw [if_neg h, if_neg h]; decide
theorem verbZ_len (k : Int) : (verbZ k).length ≤ 100 := by
  unfold verbZ
  split
  · rename_i h
    have h2 : k = 1 ∨ k = 2 ∨ k = 3 ∨ k = 4 ∨ k = 5 ∨ k = 6 ∨ k = 7 ∨ k = 8 := by omega
    rcases h2 with rfl | rfl | rfl | rfl | rfl | rfl | rfl | rfl <;> decide
  · simp

set_option maxRecDepth 100000 in
set_option maxHeartbeats 4000000 in
theorem commandNames_any (n : Int) (h1 : -9223372036854775808 ≤ n) (h2 : n ≤ 9223372036854775807) (s : ByteArray) (hs : s.size ≤ maxLen) (w : World) (henv : Env w) :
    Calls Tryz.prog 6 #[.int .i64 n, .string s] w fun e w' => e = .returned (.bool true) ∧ Below w.heap.size w w' := by
  have AL := Lib.hid (fun w1 (hB : Below w.heap.size w w1) => alive7_any w1 (henv.below hB))
  unfold maxLen at hs
  by_cases hbig : s.size ≤ 300
  · have hd : decide ((300 : Int) < (s.size : Int)) = false := by simp; omega
    have hd2 : decide (300 < s.size) = false := by simp; omega
    have KI := fun W => kind_any s (by omega) W
    have II := fun W => item_any s (by omega) W
    have VE := Lib.hid (fun W => verb_any n h1 h2 W)
    have RV := Lib.hid (fun W => refVerb_any n h1 h2 W)
    have RK := fun W => refKind_any s (by omega) W
    have RI := fun W => refItem_any s (by omega) W
    have KV := fun W => kind_any ⟨(verbZ n).toArray⟩ (by have := verbZ_len n; show (verbZ n).toArray.size ≤ _; simp; omega) W
    have e0 : kindL (ByteArray.mk (verbZ n).toArray).data.toList = if 1 ≤ n ∧ n ≤ 8 then n.toNat else 0 := kind_verb n
    rw [e0] at KV
    have hi := itemU_le (upL s.data.toList)
    have e1 : decide (itemL s.data.toList ≠ 0) = decide (0 < itemL s.data.toList) := by rw [decide_eq_decide]; omega
    rw [e1] at II
    generalize kindL s.data.toList = kd at *
    generalize itemL s.data.toList = it at *
    generalize verbZ n = vz at *
    have g1 : decide ((0 : Int) < (kd : Int)) = decide (0 < kd) := by rw [decide_eq_decide]; omega
    have g2 : decide ((0 : Int) < (it : Int)) = decide (0 < it) := by rw [decide_eq_decide]; omega
    generalize g3 : decide (0 < kd) = bk at *
    generalize g4 : decide (0 < it) = bi at *
    by_cases hr : 1 ≤ n ∧ n ≤ 8
    · rw [if_pos hr] at KV
      have hn : ((n.toNat : Nat) : Int) = n := by omega
      have hp : decide (0 < n.toNat) = true := by simp; omega
      rw [hp, hn] at KV
      have r1 : decide ((1 : Int) ≤ n) = true := by simpa using hr.1
      have r2 : decide (n ≤ (8 : Int)) = true := by simpa using hr.2
      have KI := Lib.hid KI
      have II := Lib.hid II
      have KV := Lib.hid KV
      have RK := Lib.hid RK
      have RI := Lib.hid RI
      clear hr hn hp e0 e1 henv hbig hs hi
      go_enter Tryz.func6, Tryz.ntmps6
      go_wp2_with fail
      refine (KI.out _).mono ?_
      rintro e w1 ⟨rfl, hb⟩
      go_wp2_with fail
      refine (II.out _).mono ?_
      rintro e w2 ⟨rfl, h2⟩
      replace hb := below_next hb h2
      clear h2
      go_wp2_with fail
      refine (VE.out _).mono ?_
      rintro e w2 ⟨rfl, h2⟩
      replace hb := below_next hb h2
      clear h2
      go_wp2_with fail
      refine (KV.out _).mono ?_
      rintro e w2 ⟨rfl, h2⟩
      replace hb := below_next hb h2
      clear h2
      go_wp2_with fail
      refine (AL.out _ hb).mono ?_
      rintro e w2 ⟨rfl, h2⟩
      replace hb := below_next hb h2
      clear h2
      go_wp2_with fail
      refine (VE.out _).mono ?_
      rintro e w2 ⟨rfl, h2⟩
      replace hb := below_next hb h2
      clear h2
      go_wp2_with fail
      refine (RV.out _).mono ?_
      rintro e w2 ⟨rfl, h2⟩
      replace hb := below_next hb h2
      clear h2
      go_wp2_with fail
      refine (RK.out _).mono ?_
      rintro e w2 ⟨rfl, h2⟩
      replace hb := below_next hb h2
      clear h2
      go_wp2_with fail
      refine (RI.out _).mono ?_
      rintro e w2 ⟨rfl, h2⟩
      replace hb := below_next hb h2
      clear h2
      go_wp2_with fail
      go_ret
      exact ⟨rfl, hb⟩
    · rw [if_neg hr] at KV
      have hp : decide (0 < 0) = false := rfl
      rw [hp] at KV
      have KI := Lib.hid KI
      have II := Lib.hid II
      have KV := Lib.hid KV
      have RK := Lib.hid RK
      have RI := Lib.hid RI
      by_cases hr1 : 1 ≤ n
      · have r1 : decide ((1 : Int) ≤ n) = true := by simpa using hr1
        have r2 : decide (n ≤ (8 : Int)) = false := by simp; omega
        clear hr hr1 hp e0 e1 henv hbig hs hi
        go_enter Tryz.func6, Tryz.ntmps6
        go_wp2_with fail
        refine (KI.out _).mono ?_
        rintro e w1 ⟨rfl, hb⟩
        go_wp2_with fail
        refine (II.out _).mono ?_
        rintro e w2 ⟨rfl, h2⟩
        replace hb := below_next hb h2
        clear h2
        go_wp2_with fail
        refine (VE.out _).mono ?_
        rintro e w2 ⟨rfl, h2⟩
        replace hb := below_next hb h2
        clear h2
        go_wp2_with fail
        refine (KV.out _).mono ?_
        rintro e w2 ⟨rfl, h2⟩
        replace hb := below_next hb h2
        clear h2
        go_wp2_with fail
        refine (AL.out _ hb).mono ?_
        rintro e w2 ⟨rfl, h2⟩
        replace hb := below_next hb h2
        clear h2
        go_wp2_with fail
        refine (VE.out _).mono ?_
        rintro e w2 ⟨rfl, h2⟩
        replace hb := below_next hb h2
        clear h2
        go_wp2_with fail
        refine (RV.out _).mono ?_
        rintro e w2 ⟨rfl, h2⟩
        replace hb := below_next hb h2
        clear h2
        go_wp2_with fail
        refine (RK.out _).mono ?_
        rintro e w2 ⟨rfl, h2⟩
        replace hb := below_next hb h2
        clear h2
        go_wp2_with fail
        refine (RI.out _).mono ?_
        rintro e w2 ⟨rfl, h2⟩
        replace hb := below_next hb h2
        clear h2
        go_wp2_with fail
        go_ret
        exact ⟨rfl, hb⟩
      · have r1 : decide ((1 : Int) ≤ n) = false := by simp; omega
        clear hr hr1 hp e0 e1 henv hbig hs hi
        go_enter Tryz.func6, Tryz.ntmps6
        go_wp2_with fail
        refine (KI.out _).mono ?_
        rintro e w1 ⟨rfl, hb⟩
        go_wp2_with fail
        refine (II.out _).mono ?_
        rintro e w2 ⟨rfl, h2⟩
        replace hb := below_next hb h2
        clear h2
        go_wp2_with fail
        refine (VE.out _).mono ?_
        rintro e w2 ⟨rfl, h2⟩
        replace hb := below_next hb h2
        clear h2
        go_wp2_with fail
        refine (KV.out _).mono ?_
        rintro e w2 ⟨rfl, h2⟩
        replace hb := below_next hb h2
        clear h2
        go_wp2_with fail
        refine (AL.out _ hb).mono ?_
        rintro e w2 ⟨rfl, h2⟩
        replace hb := below_next hb h2
        clear h2
        go_wp2_with fail
        refine (VE.out _).mono ?_
        rintro e w2 ⟨rfl, h2⟩
        replace hb := below_next hb h2
        clear h2
        go_wp2_with fail
        refine (RV.out _).mono ?_
        rintro e w2 ⟨rfl, h2⟩
        replace hb := below_next hb h2
        clear h2
        go_wp2_with fail
        refine (RK.out _).mono ?_
        rintro e w2 ⟨rfl, h2⟩
        replace hb := below_next hb h2
        clear h2
        go_wp2_with fail
        refine (RI.out _).mono ?_
        rintro e w2 ⟨rfl, h2⟩
        replace hb := below_next hb h2
        clear h2
        go_wp2_with fail
        go_ret
        exact ⟨rfl, hb⟩
  · have hd : decide ((300 : Int) < (s.size : Int)) = true := by simp; omega
    have hd2 : decide (300 < s.size) = true := by simp; omega
    clear hbig hs henv
    go_enter Tryz.func6, Tryz.ntmps6
    go_wp2_with fail
    refine (AL.out _ (Below.refl _ _)).mono ?_
    rintro e w2 ⟨rfl, hb⟩
    go_wp2_with fail
    go_ret
    exact ⟨rfl, hb⟩
end Go.Proofs.YthfopimgdikpgaaGreatDoor
