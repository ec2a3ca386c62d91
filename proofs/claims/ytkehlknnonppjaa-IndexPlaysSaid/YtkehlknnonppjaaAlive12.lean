/- The chapter's example: alive. -/
import Derived.Test.YtkehlknnonppjaaRx12
import Derived.Test.YtkehlknnonppjaaSlEq12
namespace Go.Proofs.Ytkehlknnonppjaa
open Go.RowKit

theorem lit3 (w : World) : SlAt encU 1 (w.alloc (.cells #[.int .u32 9, .int .u32 3, .int .u32 5] 28)) (some ⟨w.heap.size, 0, none⟩) [9, 3, 5] := by
  refine .inr ⟨w.heap.size, 0, rfl, by simp, fun j x hj i v hi => ?_⟩
  obtain rfl : i = 0 := by
    have := (List.getElem?_eq_some_iff.1 hi).1
    simpa [encU] using this
  obtain rfl : v = .int .u32 (x : Int) := by simpa [encU] using hi.symm
  match j, hj with
  | 0, hj => obtain rfl : 9 = x := by simpa using hj
             simp
  | 1, hj => obtain rfl : 3 = x := by simpa using hj
             simp
  | 2, hj => obtain rfl : 5 = x := by simpa using hj
             simp

set_option maxRecDepth 100000 in
theorem alive12_any (w : World) : Calls Try.prog 8 #[] w fun e w' => e = .returned (.bool true) ∧ Below w.heap.size w w' := by
  have hB0 := below_al w (.cells #[.int .u32 9, .int .u32 3, .int .u32 5] 28)
  have NW : Hid (Calls Try.prog 9 #[.slice (some ⟨w.heap.size, 0, none⟩) 3 3] (w.alloc (.cells #[.int .u32 9, .int .u32 3, .int .u32 5] 28)) _) := new_any (some ⟨w.heap.size, 0, none⟩) 3 [9, 3, 5] [3, 5, 9] (by decide) (by decide) ⟨by decide, fun n => by simp; omega⟩ _ (lit3 w)
  have HB0 := Lib.hid hB0
  have hs0 := hB0.size
  clear hB0
  go_enter Try.func8, Try.ntmps8
  go_wp2_with fail
  refine NW.out.mono ?_
  rintro e w1 ⟨g, r, rfl, hg, hr, X1, B1⟩
  have P1 := pos_any 5 X1.out
  rw [show posL [3, 5, 9] 5 = 2 by decide] at P1
  have P1 := Lib.hid P1
  clear NW
  go_wp2_with fail
  refine P1.out.mono ?_
  rintro e w2 ⟨rfl, hb2⟩
  have X2 := Lib.hid (X1.out.below hb2)
  have B2 := Lib.hid (below_next B1.out hb2)
  have R2 := ixremove_any 5 X2.out
  rw [show posL [3, 5, 9] 5 = 2 by decide, show remL [3, 5, 9] 5 = [3, 9] by decide] at R2
  have R2 := Lib.hid R2
  clear P1 X1 B1 hb2
  go_wp2_with fail
  refine R2.out.mono ?_
  rintro e w3 ⟨rfl, X3, T3⟩
  have B3 := Lib.hid (B2.out.trans (T3.out.below hg hr B2.out.size))
  have P3 := pos_any 9 X3.out
  rw [show posL [3, 9] 9 = 2 by decide] at P3
  have P3 := Lib.hid P3
  clear R2 X2 B2 T3
  go_wp2_with fail
  refine P3.out.mono ?_
  rintro e w4 ⟨rfl, hb4⟩
  have L4 := Lib.hid (ixlen_any (X3.out.below hb4))
  have B4 := Lib.hid (below_next B3.out hb4)
  clear P3 X3 B3 hb4
  go_wp2_with fail
  refine L4.out.mono ?_
  rintro e w5 ⟨rfl, rfl⟩
  go_wp2_with fail
  go_ret
  exact ⟨rfl, below_next HB0.out B4.out⟩
end Go.Proofs.Ytkehlknnonppjaa
