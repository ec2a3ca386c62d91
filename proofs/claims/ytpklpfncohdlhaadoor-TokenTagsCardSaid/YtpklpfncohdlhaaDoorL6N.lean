/- The walks of the laws TokenNames, TokenTags. -/
import Derived.Test.YtpklpfncohdlhaaDoorTkAlive
import Derived.Test.YtpklpfncohdlhaaDoorTkName
namespace Go.Proofs.YtpklpfncohdlhaaDoor
open Go.RowKit

set_option maxRecDepth 100000 in
set_option maxHeartbeats 2000000 in
theorem tokenNames_any (n : Int) (h1 : -9223372036854775808 ≤ n) (h2 : n ≤ 9223372036854775807) (w : World) (henv : Env w) :
    Calls Tryd.prog 7 #[.int .i64 n] w fun e w' => e = .returned (.bool true) ∧ Below w.heap.size w w' := by
  have AL := Lib.hid (alive6_any w henv)
  have TN := Lib.hid (fun W => tname_any n h1 h2 W)
  have RN := Lib.hid (fun W => refName_any n h1 h2 W)
  generalize nameL n = s at *
  clear henv
  go_enter Tryd.func7, Tryd.ntmps7
  go_wp2_with fail
  refine AL.out.mono ?_
  rintro e w1 ⟨rfl, hb⟩
  go_wp2_with fail
  refine (TN.out _).mono ?_
  rintro e w2 ⟨rfl, h2⟩
  replace hb := below_next hb h2
  clear h2
  go_wp2_with fail
  refine (RN.out _).mono ?_
  rintro e w3 ⟨rfl, h2⟩
  replace hb := below_next hb h2
  clear h2
  go_wp2_with fail
  go_ret
  exact ⟨rfl, hb⟩

theorem tagV_form (l : List UInt8) : ∃ s n b, tagV l = .tuple #[.string s, .int .i64 n, .bool b] := by
  unfold tagV
  cases tagO l with
  | none => exact ⟨_, _, _, rfl⟩
  | some t => exact ⟨_, _, _, rfl⟩

set_option maxRecDepth 100000 in
set_option maxHeartbeats 2000000 in
theorem tokenTags_any (A : Option Addr) (c : Nat) (l : List UInt8) (hl : l.length ≤ maxLen) (w : World) (henv : Env w) (hA : ByAt w.heap.size w A c l) :
    Calls Tryd.prog 4 #[.slice A l.length c] w fun e w' => e = .returned (.bool true) ∧ Below w.heap.size w w' := by
  have AL := Lib.hid (fun w1 (hB : Below w.heap.size w w1) => alive6_any w1 (henv.below hB))
  unfold maxLen at hl
  by_cases hbig : l.length ≤ 2000
  · have hd : decide ((2000 : Int) < (l.length : Int)) = false := by simp; omega
    obtain ⟨s, m, t, hV⟩ := tagV_form l
    have TT := tagTok_any _ A c l l.length rfl (by omega) w hA
    rw [hV] at TT
    have TT := Lib.hid TT
    have RT := Lib.hid (fun (w1 : World) (hB : Below w.heap.size w w1) => by
      have := refTagTok_any _ A c l l.length rfl (by omega) w1 (hA.below hB)
      rw [hV] at this
      exact this)
    clear hA hV henv
    generalize l.length = n at *
    cases t with
    | true =>
      go_enter Tryd.func4, Tryd.ntmps4
      go_wp2_with fail
      refine TT.out.mono ?_
      rintro e w1 ⟨rfl, hb⟩
      go_wp2_with fail
      refine (RT.out _ hb).mono ?_
      rintro e w2 ⟨rfl, rfl⟩
      go_wp2_with fail
      refine (AL.out _ hb).mono ?_
      rintro e w3 ⟨rfl, h2⟩
      replace hb := below_next hb h2
      clear h2
      go_wp2_with fail
      go_ret
      exact ⟨rfl, hb⟩
    | false =>
      go_enter Tryd.func4, Tryd.ntmps4
      go_wp2_with fail
      refine TT.out.mono ?_
      rintro e w1 ⟨rfl, hb⟩
      go_wp2_with fail
      refine (RT.out _ hb).mono ?_
      rintro e w2 ⟨rfl, rfl⟩
      go_wp2_with fail
      refine (AL.out _ hb).mono ?_
      rintro e w3 ⟨rfl, h2⟩
      replace hb := below_next hb h2
      clear h2
      go_wp2_with fail
      go_ret
      exact ⟨rfl, hb⟩
  · have hd : decide ((2000 : Int) < (l.length : Int)) = true := by simp; omega
    have AL := Lib.hid (AL.out w (Below.refl _ _))
    clear hA henv
    generalize l.length = n at *
    go_enter Tryd.func4, Tryd.ntmps4
    go_wp2_with fail
    refine AL.out.mono ?_
    rintro e w1 ⟨rfl, hb⟩
    go_wp2_with fail
    go_ret
    exact ⟨rfl, hb⟩
end Go.Proofs.YtpklpfncohdlhaaDoor
