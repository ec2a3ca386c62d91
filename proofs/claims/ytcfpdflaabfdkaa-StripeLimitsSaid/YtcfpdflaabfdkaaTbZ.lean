/- The table of layer 13: all that its calls do. -/
import Derived.Test.YtcfpdflaabfdkaaGi
import Derived.Test.YtcfpdflaabfdkaaGl
import Derived.Test.YtcfpdflaabfdkaaGk
import Derived.Test.YtcfpdflaabfdkaaGn
namespace Go.Proofs.Ytcfpdflaabfdkaa
open Go.RowKit

set_option maxRecDepth 100000 in
theorem twith_nil (f : Nat) (w : World) : Calls Try.prog 18 #[.pointer none, .int .u8 f] w fun e w' => ∃ A c, e = .returned (.slice A 0 c) ∧ Below w.heap.size w w' := by
  have HC := Lib.hid (fun F cs W => each_nil F cs W)
  have SO := Lib.hid (fun W => sort_own W.heap.size (.slice none 0 0) [] (by simp) W (Nat.le_refl _) (World.ownsRow_nil _ _ _ _))
  go_enter Try.func18, Try.ntmps18
  go_wp2_with fail
  refine (HC.out _ _ _).mono ?_
  rintro e w1 ⟨rfl, rfl⟩
  go_wp2_with fail
  refine (SO.out _).mono ?_
  rintro e w2 ⟨rfl, -, hb⟩
  have c1 : w2.cell? ⟨w.heap.size + 1, 0, none⟩ = some (.slice none 0 0) := (hb.cell (p := ⟨w.heap.size + 1, 0, none⟩) (by simp)).trans (by simp)
  have HB := Lib.hid (below_next (below_next (below_al w _) (below_al (w.alloc (.cells #[.int .u8 (f : Int)] 30)) (.cells #[.slice none 0 0] 43))) hb)
  clear hb SO HC
  go_wp2_with fail
  go_ret
  exact ⟨none, 0, rfl, HB.out⟩
end Go.Proofs.Ytcfpdflaabfdkaa
