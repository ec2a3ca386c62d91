/- WHAT THE WORLD OWES: the table of powers of ten and the two errors of strconv, and that they outlast whatever is made behind the heap. Plain facts, no walk. -/
import Derived.Test.YtpklpfncohdlhaaDoorBase
namespace Go.Proofs.YtpklpfncohdlhaaDoor
open Go.RowKit

/-- The library's variables hold what the program's text lays in them. -/
structure Env (w : World) : Prop where
  tab : Lib.TabIs Tryd.prog w "internal/strconv.uint64pow10" .u64 Lib.pow10Tab
  syn : ∃ tp p, w.var? Tryd.prog "strconv.ErrSyntax" = some #[.iface tp p]
  rng : ∃ tp p, w.var? Tryd.prog "strconv.ErrRange" = some #[.iface tp p]

theorem globTab : Tryd.prog.globalNamed "internal/strconv.uint64pow10" = some 1 := by kernel_rfl
theorem globSyn : Tryd.prog.globalNamed "strconv.ErrSyntax" = some 4 := by kernel_rfl
theorem globRng : Tryd.prog.globalNamed "strconv.ErrRange" = some 5 := by kernel_rfl

theorem Env.below {w w' : World} (h : Env w) (hb : Below w.heap.size w w') : Env w' := by
  obtain ⟨t, ⟨a, p, s⟩, ⟨b, q, r⟩⟩ := h
  exact ⟨var?_below hb globTab (var_lt globTab t) t, ⟨a, p, var?_below hb globSyn (var_lt globSyn s) s⟩, ⟨b, q, var?_below hb globRng (var_lt globRng r) r⟩⟩
theorem Env.alloc {w : World} (h : Env w) (o : Obj) : Env (w.alloc o) := h.below ((Below.refl _ _).alloc (Nat.le_refl _) _)

end Go.Proofs.YtpklpfncohdlhaaDoor
