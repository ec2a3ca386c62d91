/- The walks of the laws CharNumbers, CharDecimals, CharUppers. -/
import Derived.Test.YtcdfocmmpmfnmaaDoorAlive1
import Derived.Test.YtcdfocmmpmfnmaaDoorRefNum
import Derived.Test.YtcdfocmmpmfnmaaDoorRefUp
import Derived.Test.YtcdfocmmpmfnmaaDoorL1B
namespace Go.Proofs.YtcdfocmmpmfnmaaDoor
open Go.RowKit
open Go.Lib hiding intOf

set_option maxRecDepth 100000 in
set_option maxHeartbeats 1000000 in
theorem charNumbers_any (s : ByteArray) (hs : s.size ≤ maxLen) (w : World) (henv : Env w) :
    Calls Tryd.prog 6 #[.string s] w fun e w' => e = .returned (.bool true) ∧ Below w.heap.size w w' := by
  have L := fun w1 (hb : Below w.heap.size w w1) => Lib.hid (alive1_any w1 (henv.below hb))
  unfold maxLen at hs
  by_cases hl : s.size ≤ 1000
  · have A := Lib.hid (number_any s (by omega) w henv)
    have R := Lib.hid (fun w1 => refNumber_any s (by omega) w1)
    clear henv
    generalize (numOf s.data.toList).getD 0 = x at *
    generalize (numOf s.data.toList).isSome = y at *
    go_enter Tryd.func6, Tryd.ntmps6
    go_wp2_with fail
    refine A.out.mono ?_
    rintro e w1 ⟨rfl, hb⟩
    go_wp2_with fail
    refine (R.out _).mono ?_
    rintro e w2 ⟨rfl, rfl⟩
    go_wp2_with fail
    refine (L _ hb).out.mono ?_
    rintro e w2 ⟨rfl, h2⟩
    replace hb := below_next hb h2
    clear h2 L
    go_wp2_with fail
    go_ret
    exact ⟨rfl, hb⟩
  · clear henv
    go_enter Tryd.func6, Tryd.ntmps6
    go_wp2_with fail
    refine (L _ (Below.refl _ _)).out.mono ?_
    rintro e w1 ⟨rfl, hb⟩
    go_wp2_with fail
    go_ret
    exact ⟨rfl, hb⟩

theorem dec_atoms {u : Nat} (_h : u ≤ 4294967295) : allL atomN (decDigits u) = true := by
  obtain ⟨h1, _, h3⟩ := dec_facts u
  unfold allL
  rw [Bool.and_eq_true]
  refine ⟨by cases hd : decDigits u with
    | nil => exact absurd hd h3
    | cons _ _ => rfl, ?_⟩
  rw [List.all_eq_true] at h1 ⊢
  intro c hc
  have := h1 c hc
  simp only [isDig, decide_eq_true_eq] at this
  simp [atomN]
  omega

set_option maxRecDepth 100000 in
set_option maxHeartbeats 1000000 in
theorem charDecimals_any (u : Nat) (hu : u ≤ 4294967295) (w : World) (henv : Env w) :
    Calls Tryd.prog 7 #[.int .u32 u] w fun e w' => e = .returned (.bool true) ∧ Below w.heap.size w w' := by
  have L := fun w1 (hb : Below w.heap.size w w1) => Lib.hid (alive1_any w1 (henv.below hb))
  have D := Lib.hid (decimal_any u hu w henv)
  have hlen := dec_len hu
  have N := fun w1 (hb : Below w.heap.size w w1) => Lib.hid (number_any ⟨(decDigits u).toArray⟩ (by show (decDigits u).toArray.size ≤ _; simp; omega) w1 (henv.below hb))
  have e1 : (ByteArray.mk (decDigits u).toArray).data.toList = decDigits u := rfl
  rw [e1, numOf_dec hu] at N
  clear henv
  have R := Lib.hid (fun w1 => refDecimal_any u hu w1)
  have A := Lib.hid (fun w1 => allAtom ⟨(decDigits u).toArray⟩ (by show (decDigits u).toArray.size ≤ _; simp; omega) w1)
  rw [e1, dec_atoms hu] at A
  clear e1
  simp only [Option.getD_some, Option.isSome_some] at N
  generalize decDigits u = l at *
  go_enter Tryd.func7, Tryd.ntmps7
  go_wp2_with fail
  refine D.out.mono ?_
  rintro e w1 ⟨rfl, hb⟩
  go_wp2_with fail
  refine (N _ hb).out.mono ?_
  rintro e w2 ⟨rfl, h2⟩
  replace hb := below_next hb h2
  clear h2 N
  go_wp2_with fail
  refine (L _ hb).out.mono ?_
  rintro e w1 ⟨rfl, h2⟩
  replace hb := below_next hb h2
  clear h2 L
  go_wp2_with fail
  refine (R.out _).mono ?_
  rintro e w2 ⟨rfl, rfl⟩
  go_wp2_with fail
  refine (A.out _).mono ?_
  rintro e w2 ⟨rfl, h2⟩
  replace hb := below_next hb h2
  clear h2
  go_wp2_with fail
  go_ret
  exact ⟨rfl, hb⟩

set_option maxRecDepth 100000 in
set_option maxHeartbeats 2000000 in
theorem charUppers_any (a : ByteArray) (ha : a.size ≤ maxLen) (b : ByteArray) (hb : b.size ≤ maxLen) (w : World) (henv : Env w) :
    Calls Tryd.prog 5 #[.string a, .string b] w fun e w' => e = .returned (.bool true) ∧ Below w.heap.size w w' := by
  have L := fun w1 (hb : Below w.heap.size w w1) => Lib.hid (alive1_any w1 (henv.below hb))
  clear henv
  unfold maxLen at ha hb
  by_cases hla : a.size ≤ 1000
  · by_cases hlb : b.size ≤ 1000
    · have U := Lib.hid (upper_any a (by omega) w)
      have rU := Lib.hid (fun w1 => refUpper_any a (by omega) w1)
      have rB := Lib.hid (fun w1 => refUpper_any b (by omega) w1)
      have hul : (upL a.data.toList).length = a.size := by rw [upL_length]; simp
      have UU := Lib.hid (fun w1 => upper_any ⟨(upL a.data.toList).toArray⟩ (by show (upL a.data.toList).toArray.size ≤ _; simp; omega) w1)
      have S1 := Lib.hid (fun w1 => same_any a ⟨(upL a.data.toList).toArray⟩ (by omega) (by show (upL a.data.toList).toArray.size ≤ _; simp; omega) w1)
      have S2 := Lib.hid (fun w1 => same_any a b (by omega) (by omega) w1)
      have e1 : (ByteArray.mk (upL a.data.toList).toArray).data.toList = upL a.data.toList := rfl
      rw [e1, upL_upL] at UU S1
      clear e1
      simp only [BEq.rfl] at S1
      generalize upL a.data.toList = x at *
      generalize upL b.data.toList = y at *
      go_enter Tryd.func5, Tryd.ntmps5
      go_wp2_with fail
      refine U.out.mono ?_
      rintro e w1 ⟨rfl, hb⟩
      go_wp2_with fail
      refine (L _ hb).out.mono ?_
      rintro e w2 ⟨rfl, h2⟩
      replace hb := below_next hb h2
      clear h2 L
      go_wp2_with fail
      refine (rU.out _).mono ?_
      rintro e w1 ⟨rfl, h2⟩
      replace hb := below_next hb h2
      clear h2
      go_wp2_with fail
      refine (UU.out _).mono ?_
      rintro e w2 ⟨rfl, h2⟩
      replace hb := below_next hb h2
      clear h2
      go_wp2_with fail
      refine (S1.out _).mono ?_
      rintro e w1 ⟨rfl, h2⟩
      replace hb := below_next hb h2
      clear h2
      go_wp2_with fail
      refine (S2.out _).mono ?_
      rintro e w2 ⟨rfl, h2⟩
      replace hb := below_next hb h2
      clear h2
      go_wp2_with fail
      refine (rU.out _).mono ?_
      rintro e w1 ⟨rfl, h2⟩
      replace hb := below_next hb h2
      clear h2
      go_wp2_with fail
      refine (rB.out _).mono ?_
      rintro e w2 ⟨rfl, h2⟩
      replace hb := below_next hb h2
      clear h2
      go_wp2_with fail
      go_ret
      exact ⟨rfl, hb⟩
    · go_enter Tryd.func5, Tryd.ntmps5
      go_wp2_with fail
      refine (L _ (Below.refl _ _)).out.mono ?_
      rintro e w1 ⟨rfl, hb⟩
      go_wp2_with fail
      go_ret
      exact ⟨rfl, hb⟩
  · go_enter Tryd.func5, Tryd.ntmps5
    go_wp2_with fail
    refine (L _ (Below.refl _ _)).out.mono ?_
    rintro e w1 ⟨rfl, hb⟩
    go_wp2_with fail
    go_ret
    exact ⟨rfl, hb⟩
end Go.Proofs.YtcdfocmmpmfnmaaDoor
