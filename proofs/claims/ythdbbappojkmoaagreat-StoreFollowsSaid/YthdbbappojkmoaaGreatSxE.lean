/- The laws of layer 16: Expunge, and what the law holds beside the mailbox. No walk. -/
import Derived.Test.YthdbbappojkmoaaGreatHx
import Derived.Test.YthdbbappojkmoaaGreatStE
namespace Go.Proofs.YthdbbappojkmoaaGreat
open Go.RowKit

section
variable {B g : Nat} {st : StP} {items : List Item} {w0 W W' : World}
theorem OX.exp (h : OX B (ST g st) items w0 W) (hq : smallP st 50000) :
    Calls Tryz.prog 12 #[.pointer (some ⟨g, 0, none⟩)] W fun e w' => ∃ A c, e = .returned (.slice A (goneP st).length c) ∧ OX B (ST g (expP st)) (u32I B A c (goneP st) :: items) w0 w' := by
  obtain ⟨S, t, h2, h3⟩ := h.tb
  refine (sexp_any hq t).mono ?_
  rintro e w' ⟨S', A, c, rfl, ho, hA, t', m, kk⟩
  exact ⟨A, c, rfl, h.rowU h2 h3 t' m kk ho hA⟩
end
end Go.Proofs.YthdbbappojkmoaaGreat
