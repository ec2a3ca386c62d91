/- Below over draws and new blocks, for the arms of a region that draws. -/
import Derived.Test.YtpklpfncohdlhaaDoorBy
namespace Go.Proofs.YtpklpfncohdlhaaDoor
open Go.RowKit

theorem belDraw {B : Nat} {a x : World} (h : Below B a x) : Below B a x.drew := h.trans (Below.refl B x).drew
theorem belDrawN {B : Nat} {a x : World} (h : Below B a x) (n : Nat) : Below B a (x.drewN n) := h.trans ⟨rfl, rfl, rfl, Nat.le_refl _, fun _ _ => rfl⟩
theorem belAlloc {a x : World} (h : Below a.heap.size a x) (o : Obj) : Below a.heap.size a (x.alloc o) := below_next h (below_al x o)
theorem belSet {a x : World} {b i : Nat} (h : Below a.heap.size a x) (hb : a.heap.size ≤ b) (v : Value) : Below a.heap.size a (x.setCell ⟨b, i, none⟩ v) := h.setCell (p := ⟨b, i, none⟩) hb v
end Go.Proofs.YtpklpfncohdlhaaDoor
