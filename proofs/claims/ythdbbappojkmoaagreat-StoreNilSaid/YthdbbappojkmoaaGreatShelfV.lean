/- THE LIBRARY's CONTRACTS THAT ARE PROVED ONCE, OVER ANY PROGRAM: where their functions and types lie in this program. By program. -/
import Derived.Shelf.SlGeneric
import Derived.Shelf.SlicesQ.Equal
import Derived.Shelf.Small.Bits
import Derived.Shelf.Strconv.Itoa0
import Derived.Shelf.SlicesE.Equal
import Derived.Test.YthdbbappojkmoaaGreatProg
namespace Go.Proofs
open Go.Shelf
def Tryz.laysEqV_ren : Go.Shelf.Ren := ⟨fun | 8 => 26 | n => n, fun | 22 => 41 | 24 => 44 | 4 => 4 | 3 => 3 | 0 => 0 | n => n, fun | n => n⟩
theorem Tryz.laysEqV : Go.Proofs.SlLaysQ.n8 Tryz.prog Tryz.laysEqV_ren := {
  mixed := by kernel_rfl
  f8 := ⟨Tryz.f26.name, by decide, Tryz.func26.trans (congrArg some (by kernel_rfl))⟩
  t0 := Tryz.underlying0
  a0 := Tryz.isAgg0
  z0 := Tryz.sizeOf0
  v0 := Tryz.zeroValue0
  t3 := Tryz.underlying3
  a3 := Tryz.isAgg3
  z3 := Tryz.sizeOf3
  v3 := Tryz.zeroValue3
  t4 := Tryz.underlying4
  a4 := Tryz.isAgg4
  z4 := Tryz.sizeOf4
  v4 := Tryz.zeroValue4
  t22 := Tryz.underlying41
  a22 := Tryz.isAgg41
  z22 := Tryz.sizeOf41
  v22 := Tryz.zeroValue41 }
end Go.Proofs
