/- Layer 15: Len. -/
import Derived.Test.YthdbbappojkmoaaGreatHe
namespace Go.Proofs.YthdbbappojkmoaaGreat
open Go.RowKit
section
variable {g : Nat} {S : Nat → Prop} {q : List EvI} {w : World}
set_option maxRecDepth 100000 in
theorem qlen_any (_hq : q.length ≤ 100000) (h : QT g S q w) : Calls Tryz.prog 44 #[.pointer (some ⟨g, 0, none⟩)] w fun e w' => e = .returned (.int .i64 (q.length : Int)) ∧ Below w.heap.size w w' := by
  obtain ⟨A, c, h⟩ := h
  have hc := h.cell
  clear h
  go_enter Tryz.func44, Tryz.ntmps44
  go_wp2_with fail
  go_ret
  exact ⟨rfl, Below.refl _ _⟩
end
set_option maxRecDepth 100000 in
theorem qlen_nil (w : World) : Calls Tryz.prog 44 #[.pointer none] w fun e w' => e = .returned (.int .i64 0) ∧ Below w.heap.size w w' := by
  go_enter Tryz.func44, Tryz.ntmps44
  go_wp2_with fail
  go_ret
  exact ⟨rfl, Below.refl _ _⟩
end Go.Proofs.YthdbbappojkmoaaGreat
