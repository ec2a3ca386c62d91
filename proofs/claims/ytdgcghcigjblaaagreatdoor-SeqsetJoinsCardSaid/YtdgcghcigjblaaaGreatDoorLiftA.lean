/- An argument that is an array of two numbers. -/
import Derived.Test.YtdgcghcigjblaaaGreatDoorLift2
import Derived.OpenShut
namespace Go.Proofs.YtdgcghcigjblaaaGreatDoor
open Go.ChangeShapes Go.WideShapes Go.ChangeAt Go.WideMaps Go.WideElems Go.RowKit

set_option maxRecDepth 100000 in
theorem open_u32x2 {H : Type} {enc : TypeId × Value → H} {W : World} {base : Nat} {v : Value} {d : DataW H} {p : List MemPlace}
    (hv : Value.okWide Tryz.prog W .any base 23 v) (h : DataW.Trod enc Tryz.prog W 0 (fun _ => true) true 23 v d p) :
    ∃ n0 n1 : Nat, n0 ≤ 4294967295 ∧ n1 ≤ 4294967295 ∧ v = .agg #[.int .u32 n0, .int .u32 n1] := by
  unfold Value.okWide at hv
  rw [Tryz.underlying23] at hv
  obtain ⟨cs, rfl, hsz, _⟩ := hv
  rw [show Tryz.prog.cellsOf 23 = 2 by kernel_rfl] at hsz
  obtain ⟨a, b, rfl⟩ : ∃ a b, cs = #[a, b] := by
    obtain ⟨l⟩ := cs
    match l, hsz with
    | [a, b], _ => exact ⟨a, b, rfl⟩
  obtain ⟨fuel, hf⟩ := h
  obtain ⟨xs, m, _, _, _, hxs, hi⟩ := DataW.trod_array Tryz.underlying23 hf
  have c1 : Tryz.prog.cellsOf 22 = 1 := by kernel_rfl
  have e0 := hi 0 (by decide)
  have e1 := hi 1 (by decide)
  rw [c1, List.getElem?_eq_getElem (by omega)] at e0 e1
  obtain ⟨x, hx1, _, hw1⟩ := DataW.trod_int Tryz.underlying22 e0
  obtain ⟨y, hy1, _, hw2⟩ := DataW.trod_int Tryz.underlying22 e1
  have b1 := wf_u32 hw1
  have b2 := wf_u32 hw2
  have hx2 : a = .int .u32 x := by simpa [Value.cells] using hx1
  have hy2 : b = .int .u32 y := by simpa [Value.cells] using hy1
  refine ⟨x.toNat, y.toNat, by omega, by omega, ?_⟩
  rw [hx2, hy2, show ((x.toNat : Nat) : Int) = x by omega, show ((y.toNat : Nat) : Int) = y by omega]
end Go.Proofs.YtdgcghcigjblaaaGreatDoor
