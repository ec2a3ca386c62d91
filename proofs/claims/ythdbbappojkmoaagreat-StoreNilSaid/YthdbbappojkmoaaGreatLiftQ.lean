/- An argument that is a slice of bytes. -/
import Derived.Test.YthdbbappojkmoaaGreatLiftB
import Derived.Test.YthdbbappojkmoaaGreatHc
import Derived.Deep.SlicePairs
namespace Go.Proofs.YthdbbappojkmoaaGreat
open Go.ChangeShapes Go.WideShapes Go.ChangeAt Go.WideMaps Go.WideElems Go.RowKit

theorem wf_u8Q {x : Int} (h : (Lit.int .u8 x).wf = true) : 0 ≤ x ∧ x ≤ 255 := by
  have := bounds_u8 h
  omega

set_option maxRecDepth 100000 in
theorem open_bytes16L {H : Type} {enc : TypeId × Value → H} {W : World} {base : Nat} {v : Value} {d : DataW H} {p : List MemPlace}
    (hv : Value.okWide Tryz.prog W .any base 33 v) (h : DataW.Trod enc Tryz.prog W 0 (fun _ => true) true 33 v d p) (hlt : ∀ x ∈ p, x.block < W.heap.size) :
    ∃ A c, ∃ l : List UInt8, v = .slice A l.length c ∧ l.length ≤ maxLen ∧ ByAt W.heap.size W A c l := by
  obtain ⟨a0, len, cap, rfl⟩ := okWide_slice Tryz.underlying33 hv
  obtain ⟨fuel, hf⟩ := h
  rcases open_ints Tryz.underlying33 Tryz.underlying5 (by kernel_rfl) hf with ⟨hcs, _⟩ | ⟨a, len', cap', zs, hcs, _, hlc, hcm, hzl, hx, hi, hwf⟩
  · simp [Value.cells] at hcs
    obtain ⟨rfl, rfl, rfl⟩ := hcs
    exact ⟨none, 0, [], rfl, Nat.zero_le _, ByAt.nil _ _ _ _⟩
  · simp [Value.cells] at hcs
    obtain ⟨rfl, rfl, rfl⟩ := hcs
    simp only [if_true] at hzl
    have each : ∀ i, i < len → ∃ n : UInt8, W.cell? (a.add i) = some (.int .u8 (n.toNat : Int)) := by
      intro i hil
      have hc := hi i (by omega)
      have hw := wf_u8Q (hwf (zs.getD i 0) (by
        rw [List.getD_eq_getElem?_getD, List.getElem?_eq_getElem (by omega)]
        exact List.getElem_mem _))
      refine ⟨UInt8.ofNat (zs.getD i 0).toNat, ?_⟩
      rw [hc, UInt8.toNat_ofNat', Nat.mod_eq_of_lt (by omega)]
      congr 2
      omega
    obtain ⟨f, hf⟩ := Go.Deep.choose_lt each
    have hll : ((List.range len).map f).length = len := by rw [List.length_map, List.length_range]
    refine ⟨some a, _, (List.range len).map f, by rw [hll], by rw [hll]; exact Nat.le_trans hlc hcm, ⟨by rw [hll]; exact hlc, ?_⟩⟩
    by_cases h0 : len = 0
    · exact .inl (by simp [h0])
    · obtain ⟨b, off, spot⟩ := a
      have hspot : spot = none := by simpa [Addr.add] using World.cell?_spot (hf 0 (by omega))
      subst hspot
      have hb : b < W.heap.size := hlt (.cell b off) (by
        simp only [Prod.mk.injEq] at hx
        rw [hx.2]
        exact MemPlace.mem_row.2 ⟨0, by omega, by simp⟩)
      refine .inr ⟨b, off, rfl, hb, hb, fun j hj => ?_⟩
      rw [hll] at hj
      have c0 := hf j hj
      rw [add_plain] at c0
      simpa using c0
end Go.Proofs.YthdbbappojkmoaaGreat
