/- The walk of the law CharClasses. -/
import Derived.Test.YtcdfocmmpmfnmaaDoorAlive1
namespace Go.Proofs.YtcdfocmmpmfnmaaDoor
open Go.RowKit

set_option maxRecDepth 100000 in
set_option maxHeartbeats 1000000 in
theorem charClasses_any (n : Nat) (h1 : n ≤ 255) (w : World) (henv : Env w) :
    Calls Tryd.prog 3 #[.int .u8 n] w fun e w' => e = .returned (.bool true) ∧ Below w.heap.size w w' := by
  have L := Lib.hid (alive1_any w henv)
  clear henv
  have A := Lib.hid (fun w1 => atom_any n w1 h1)
  have T := Lib.hid (fun w1 => tag_any n w1 h1)
  have X := Lib.hid (fun w1 => text_any n w1 h1)
  have rA := Lib.hid (fun w1 => refAtom_any n w1 h1)
  have rT := Lib.hid (fun w1 => refTag_any n w1 h1)
  have rX := Lib.hid (fun w1 => refText_any n w1 h1)
  have hx : atomN n = false ∨ atomN n = true ∧ textN n = true := by unfold atomN textN; simp; omega
  generalize atomN n = a at *
  generalize tagN n = t at *
  generalize textN n = x at *
  rcases hx with rfl | ⟨rfl, rfl⟩
  all_goals
    go_enter Tryd.func3, Tryd.ntmps3
    go_wp2_with fail
    refine L.out.mono ?_
    rintro e w1 ⟨rfl, hb⟩
    go_wp2_with fail
    refine (A.out _).mono ?_
    rintro e w2 ⟨rfl, h2⟩
    replace hb := below_next hb h2
    clear h2
    go_wp2_with fail
    refine (rA.out _).mono ?_
    rintro e w1 ⟨rfl, rfl⟩
    go_wp2_with fail
    refine (T.out _).mono ?_
    rintro e w1 ⟨rfl, h2⟩
    replace hb := below_next hb h2
    clear h2
    go_wp2_with fail
    refine (rT.out _).mono ?_
    rintro e w2 ⟨rfl, rfl⟩
    go_wp2_with fail
    refine (X.out _).mono ?_
    rintro e w2 ⟨rfl, h2⟩
    replace hb := below_next hb h2
    clear h2
    go_wp2_with fail
    refine (rX.out _).mono ?_
    rintro e w1 ⟨rfl, rfl⟩
    go_wp2_with fail
    refine (A.out _).mono ?_
    rintro e w1 ⟨rfl, h2⟩
    replace hb := below_next hb h2
    clear h2
    go_wp2_with fail
  · go_ret
    exact ⟨rfl, hb⟩
  · refine (X.out _).mono ?_
    rintro e w2 ⟨rfl, h2⟩
    replace hb := below_next hb h2
    clear h2
    go_wp2_with fail
    go_ret
    exact ⟨rfl, hb⟩
end Go.Proofs.YtcdfocmmpmfnmaaDoor
