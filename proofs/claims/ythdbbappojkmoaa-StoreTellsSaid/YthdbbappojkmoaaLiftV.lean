/- An argument that is an array of two numbers. -/
import Derived.Test.YthdbbappojkmoaaLiftB
import Derived.OpenShut
namespace Go.Proofs.Ythdbbappojkmoaa
open Go.ChangeShapes Go.WideShapes Go.ChangeAt Go.WideMaps Go.WideElems Go.RowKit

set_option maxRecDepth 100000 in
theorem open_u8x2 {H : Type} {enc : TypeId × Value → H} {W : World} {base : Nat} {v : Value} {d : DataW H} {p : List MemPlace}
    (hv : Value.okWide Try.prog W .any base 34 v) (h : DataW.Trod enc Try.prog W 0 (fun _ => true) true 34 v d p) :
    ∃ n0 n1 : Nat, n0 ≤ 255 ∧ n1 ≤ 255 ∧ v = .agg #[.int .u8 n0, .int .u8 n1] := by
  unfold Value.okWide at hv
  rw [Try.underlying34] at hv
  obtain ⟨cs, rfl, hsz, _⟩ := hv
  rw [show Try.prog.cellsOf 34 = 2 by kernel_rfl] at hsz
  obtain ⟨a, b, rfl⟩ : ∃ a b, cs = #[a, b] := by
    obtain ⟨l⟩ := cs
    match l, hsz with
    | [a, b], _ => exact ⟨a, b, rfl⟩
  obtain ⟨fuel, hf⟩ := h
  obtain ⟨xs, m, _, _, _, hxs, hi⟩ := DataW.trod_array Try.underlying34 hf
  have c1 : Try.prog.cellsOf 5 = 1 := by kernel_rfl
  have e0 := hi 0 (by decide)
  have e1 := hi 1 (by decide)
  rw [c1, List.getElem?_eq_getElem (by omega)] at e0 e1
  obtain ⟨x, hx1, _, hw1⟩ := DataW.trod_int Try.underlying5 e0
  obtain ⟨y, hy1, _, hw2⟩ := DataW.trod_int Try.underlying5 e1
  have b1 := bounds_u8 hw1
  have b2 := bounds_u8 hw2
  have hx2 : a = .int .u8 x := by simpa [Value.cells] using hx1
  have hy2 : b = .int .u8 y := by simpa [Value.cells] using hy1
  refine ⟨x.toNat, y.toNat, by omega, by omega, ?_⟩
  rw [hx2, hy2, show ((x.toNat : Nat) : Int) = x by omega, show ((y.toNat : Nat) : Int) = y by omega]
end Go.Proofs.Ythdbbappojkmoaa
