/- The reference of layer 7: mode. -/
import Derived.Test.YthfopimgdikpgaaGreatDoorRef07L
namespace Go.Proofs.YthfopimgdikpgaaGreatDoor
open Go.RowKit

set_option maxRecDepth 100000 in
set_option maxHeartbeats 2000000 in
theorem rmode_any (x : List UInt8) (hl : x.length ≤ 1000000) (w : World) :
    Calls Tryz.prog 53 #[.string ⟨x.toArray⟩] w fun e w' => e = .returned (modeZ (modeL x)) ∧ Below w.heap.size w w' := by
  rw [modeL_is]
  have U := Lib.hid (refUpper_any ⟨x.toArray⟩ (by show x.toArray.size ≤ _; simp; omega) w)
  have e0 : (ByteArray.mk x.toArray).data.toList = x := rfl
  rw [e0] at U
  have hul : (upL x).length ≤ 1000000 := by rw [upL_length]; exact hl
  generalize upL x = u at *
  obtain ⟨n, hn⟩ : ∃ n, u.length = n := ⟨_, rfl⟩
  have hsz : (ByteArray.mk u.toArray).size = n := by show u.toArray.size = _; simpa using hn
  obtain ⟨O, hO⟩ : ∃ O, (if silent7 u = true then (modeU (u.take (u.length - 7))).map (·, true) else (modeU u).map (·, false)) = O := ⟨_, rfl⟩
  rw [hO]
  rw [hn] at hO
  have HO := Lib.hid hO
  clear hO e0
  by_cases h7 : 7 < n
  · have hw7 : IntKind.i64.wrap ((n : Int) - 7) = ((n - 7 : Nat) : Int) := wrap_sub n 7 (by omega) (by omega)
    have CL : ∀ W, (Instr.slice 9 (.string ⟨u.toArray⟩) (some (.int .i64 ((n - 7 : Nat) : Int))) none none).run Tryz.prog W = .ok (.string ⟨(u.drop (n - 7)).toArray⟩) W := fun W => by
      have h := run_slice_string_from_if (P := Tryz.prog) (w := W) 9 ⟨u.toArray⟩ .i64 ((n - 7 : Nat) : Int) Tryz.underlying9
      rw [h, hsz, if_pos ⟨by omega, by omega⟩]
      congr 2
      apply ByteArray.ext
      apply Array.toList_inj.1
      simp only [← hn]
      simp
      exact List.take_of_length_le (by simp)
    have CH : ∀ W, (Instr.slice 9 (.string ⟨u.toArray⟩) none (some (.int .i64 ((n - 7 : Nat) : Int))) none).run Tryz.prog W = .ok (.string ⟨(u.take (n - 7)).toArray⟩) W := fun W => by
      have h := run_slice_string_to_if (P := Tryz.prog) (w := W) 9 ⟨u.toArray⟩ .i64 ((n - 7 : Nat) : Int) Tryz.underlying9
      rw [h, hsz, if_pos ⟨by omega, by omega⟩]
      congr 2
      apply ByteArray.ext
      apply Array.toList_inj.1
      simp
    have d1 : decide ((7 : Int) < (n : Int)) = true := by simp; omega
    have d2 : decide (7 < n) = true := by simpa using h7
    have HS : silent7 u = (u.drop (n - 7) == silB) := by unfold silent7; rw [hn, d2, Bool.true_and]
    rw [HS] at HO
    clear HS
    have hsz2 : u.toArray.size = n := by simpa using hn
    generalize n - 7 = n7 at *
    generalize u.drop n7 = y at *
    generalize u.take n7 = z at *
    by_cases hy : y = silB
    · have hb : (y == silB) = true := by simpa using hy
      have HO1 : Hid ((modeU z).map (·, true) = O) := Lib.hid (by rw [← HO.out, hb]; rfl)
      subst hy
      unfold silB at *
      clear HO hb hn
      rcases modeU_cases z with ⟨rfl, hm⟩ | ⟨rfl, hm⟩ | ⟨rfl, hm⟩ | ⟨hm, q1, q2, q3⟩
      · rw [hm] at HO1
        clear hm
        go_enter Tryz.func53, Tryz.ntmps53
        go_wp2_with fail
        refine U.out.mono ?_
        rintro e w1 ⟨rfl, hb1⟩
        go_wp2_with fail
        refine bodyPost_ret (v := .tuple #[.int .i64 0, .bool true]) (by simp [results, Tryz.results53, go_sem]) rfl ⟨by rw [← HO1.out]; rfl, hb1⟩
      · rw [hm] at HO1
        clear hm
        go_enter Tryz.func53, Tryz.ntmps53
        go_wp2_with fail
        refine U.out.mono ?_
        rintro e w1 ⟨rfl, hb1⟩
        go_wp2_with fail
        refine bodyPost_ret (v := .tuple #[.int .i64 1, .bool true]) (by simp [results, Tryz.results53, go_sem]) rfl ⟨by rw [← HO1.out]; rfl, hb1⟩
      · rw [hm] at HO1
        clear hm
        go_enter Tryz.func53, Tryz.ntmps53
        go_wp2_with fail
        refine U.out.mono ?_
        rintro e w1 ⟨rfl, hb1⟩
        go_wp2_with fail
        refine bodyPost_ret (v := .tuple #[.int .i64 2, .bool true]) (by simp [results, Tryz.results53, go_sem]) rfl ⟨by rw [← HO1.out]; rfl, hb1⟩
      · rw [hm] at HO1
        have q1' : (z == [70, 76, 65, 71, 83]) = false := by simpa using q1
        have q2' : (z == [43, 70, 76, 65, 71, 83]) = false := by simpa using q2
        have q3' : (z == [45, 70, 76, 65, 71, 83]) = false := by simpa using q3
        clear hm
        go_enter Tryz.func53, Tryz.ntmps53
        go_wp2_with fail
        refine U.out.mono ?_
        rintro e w1 ⟨rfl, hb1⟩
        go_wp2_with fail
        refine bodyPost_ret (v := .tuple #[.int .i64 (-1), .bool false]) (by simp [results, Tryz.results53, go_sem]) rfl ⟨by rw [← HO1.out]; rfl, hb1⟩
    · have hb : (y == silB) = false := by simpa using hy
      have HO1 : Hid ((modeU u).map (·, false) = O) := Lib.hid (by rw [← HO.out, hb]; rfl)
      unfold silB at hb hy
      clear HO
      rcases modeU_cases u with ⟨rfl, hm⟩ | ⟨rfl, hm⟩ | ⟨rfl, hm⟩ | ⟨hm, q1, q2, q3⟩
      · simp at hn; omega
      · simp at hn; omega
      · simp at hn; omega
      · rw [hm] at HO1
        clear hn
        have q1' : (u == [70, 76, 65, 71, 83]) = false := by simpa using q1
        have q2' : (u == [43, 70, 76, 65, 71, 83]) = false := by simpa using q2
        have q3' : (u == [45, 70, 76, 65, 71, 83]) = false := by simpa using q3
        clear hm
        go_enter Tryz.func53, Tryz.ntmps53
        go_wp2_with fail
        refine U.out.mono ?_
        rintro e w1 ⟨rfl, hb1⟩
        go_wp2_with fail
        refine bodyPost_ret (v := .tuple #[.int .i64 (-1), .bool false]) (by simp [results, Tryz.results53, go_sem]) rfl ⟨by rw [← HO1.out]; rfl, hb1⟩
  · have d1 : decide ((7 : Int) < (n : Int)) = false := by simp; omega
    have d2 : decide (7 < n) = false := by simpa using h7
    have HO1 : Hid ((modeU u).map (·, false) = O) := Lib.hid (by
      rw [← HO.out, show silent7 u = false by unfold silent7; rw [hn, d2]; rfl]; rfl)
    have hsz2 : u.toArray.size = n := by simpa using hn
    clear HO hn
    rcases modeU_cases u with ⟨rfl, hm⟩ | ⟨rfl, hm⟩ | ⟨rfl, hm⟩ | ⟨hm, q1, q2, q3⟩
    · rw [hm] at HO1
      clear hm
      go_enter Tryz.func53, Tryz.ntmps53
      go_wp2_with fail
      refine U.out.mono ?_
      rintro e w1 ⟨rfl, hb1⟩
      go_wp2_with fail
      refine bodyPost_ret (v := .tuple #[.int .i64 0, .bool false]) (by simp [results, Tryz.results53, go_sem]) rfl ⟨by rw [← HO1.out]; rfl, hb1⟩
    · rw [hm] at HO1
      clear hm
      go_enter Tryz.func53, Tryz.ntmps53
      go_wp2_with fail
      refine U.out.mono ?_
      rintro e w1 ⟨rfl, hb1⟩
      go_wp2_with fail
      refine bodyPost_ret (v := .tuple #[.int .i64 1, .bool false]) (by simp [results, Tryz.results53, go_sem]) rfl ⟨by rw [← HO1.out]; rfl, hb1⟩
    · rw [hm] at HO1
      clear hm
      go_enter Tryz.func53, Tryz.ntmps53
      go_wp2_with fail
      refine U.out.mono ?_
      rintro e w1 ⟨rfl, hb1⟩
      go_wp2_with fail
      refine bodyPost_ret (v := .tuple #[.int .i64 2, .bool false]) (by simp [results, Tryz.results53, go_sem]) rfl ⟨by rw [← HO1.out]; rfl, hb1⟩
    · rw [hm] at HO1
      have q1' : (u == [70, 76, 65, 71, 83]) = false := by simpa using q1
      have q2' : (u == [43, 70, 76, 65, 71, 83]) = false := by simpa using q2
      have q3' : (u == [45, 70, 76, 65, 71, 83]) = false := by simpa using q3
      clear hm
      go_enter Tryz.func53, Tryz.ntmps53
      go_wp2_with fail
      refine U.out.mono ?_
      rintro e w1 ⟨rfl, hb1⟩
      go_wp2_with fail
      refine bodyPost_ret (v := .tuple #[.int .i64 (-1), .bool false]) (by simp [results, Tryz.results53, go_sem]) rfl ⟨by rw [← HO1.out]; rfl, hb1⟩
end Go.Proofs.YthfopimgdikpgaaGreatDoor
