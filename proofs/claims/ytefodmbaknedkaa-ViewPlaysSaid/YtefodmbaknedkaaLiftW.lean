/- An argument that is a slice of numbers. -/
import Derived.Test.YtefodmbaknedkaaLiftB
import Derived.Test.YtefodmbaknedkaaVa
import Derived.Deep.SlicePairs
namespace Go.Proofs.Ytefodmbaknedkaa
open Go.ChangeShapes Go.WideShapes Go.ChangeAt Go.WideMaps Go.WideElems Go.RowKit

theorem wf_u32 {x : Int} (h : (Lit.int .u32 x).wf = true) : 0 ≤ x ∧ x ≤ 4294967295 := by
  have := bounds_u32 h
  omega

set_option maxRecDepth 100000 in
theorem open_u32c {H : Type} {enc : TypeId × Value → H} {W : World} {base : Nat} {v : Value} {d : DataW H} {p : List MemPlace}
    (hv : Value.okWide Try.prog W .any base 22 v) (h : DataW.Trod enc Try.prog W 0 (fun _ => true) true 22 v d p) (hlt : ∀ x ∈ p, x.block < W.heap.size) :
    ∃ A c, ∃ l : List Nat, v = .slice A l.length c ∧ l.length ≤ c ∧ l.length ≤ maxLen ∧ (∀ n ∈ l, n ≤ 4294967295) ∧ SlAt encU 1 W A l := by
  obtain ⟨a0, len, cap, rfl⟩ := okWide_slice Try.underlying22 hv
  obtain ⟨fuel, hf⟩ := h
  rcases open_ints Try.underlying22 Try.underlying35 (by kernel_rfl) hf with ⟨hcs, _⟩ | ⟨a, len', cap', zs, hcs, _, hlc, hcm, hzl, hx, hi, hwf⟩
  · simp [Value.cells] at hcs
    obtain ⟨rfl, rfl, rfl⟩ := hcs
    exact ⟨none, 0, [], rfl, Nat.le_refl _, Nat.zero_le _, (fun r hr => by cases hr), .inl rfl⟩
  · simp [Value.cells] at hcs
    obtain ⟨rfl, rfl, rfl⟩ := hcs
    simp only [if_true] at hzl
    have each : ∀ i, i < len → ∃ n : Nat, n ≤ 4294967295 ∧ W.cell? (a.add i) = some (.int .u32 (n : Int)) := by
      intro i hil
      have hc := hi i (by omega)
      have hw := wf_u32 (hwf (zs.getD i 0) (by
        rw [List.getD_eq_getElem?_getD, List.getElem?_eq_getElem (by omega)]
        exact List.getElem_mem _))
      refine ⟨(zs.getD i 0).toNat, by omega, ?_⟩
      rw [hc]
      congr 2
      omega
    obtain ⟨f, hf⟩ := Go.Deep.choose_lt each
    have hll : ((List.range len).map f).length = len := by rw [List.length_map, List.length_range]
    refine ⟨some a, _, (List.range len).map f, by rw [hll], by rw [hll]; exact hlc, by rw [hll]; exact Nat.le_trans hlc hcm, fun r hr => ?_, ?_⟩
    · obtain ⟨i, hi', rfl⟩ := List.mem_map.1 hr
      exact (hf i (List.mem_range.1 hi')).1
    · by_cases h0 : len = 0
      · exact .inl (by simp [h0])
      · obtain ⟨b, off, spot⟩ := a
        have hspot : spot = none := by simpa [Addr.add] using World.cell?_spot (hf 0 (by omega)).2
        subst hspot
        have hb : b < W.heap.size := hlt (.cell b off) (by
          simp only [Prod.mk.injEq] at hx
          rw [hx.2]
          exact MemPlace.mem_row.2 ⟨0, by omega, by simp⟩)
        refine .inr ⟨b, off, rfl, hb, fun j x hj i v hi' => ?_⟩
        have hjl : j < len := by
          have := (List.getElem?_eq_some_iff.1 hj).1
          simpa using this
        have hxj : x = f j := by
          rw [List.getElem?_map, List.getElem?_range hjl] at hj
          simpa using hj.symm
        have c0 := (hf j hjl).2
        rw [← hxj, add_plain] at c0
        obtain rfl : i = 0 := by
          have := (List.getElem?_eq_some_iff.1 hi').1
          simpa [encU] using this
        obtain rfl : v = .int .u32 (x : Int) := by simpa [encU] using hi'.symm
        simpa using c0

set_option maxRecDepth 100000 in
theorem open_u32s {H : Type} {enc : TypeId × Value → H} {W : World} {base : Nat} {v : Value} {d : DataW H} {p : List MemPlace}
    (hv : Value.okWide Try.prog W .any base 22 v) (h : DataW.Trod enc Try.prog W 0 (fun _ => true) true 22 v d p) (hlt : ∀ x ∈ p, x.block < W.heap.size) :
    ∃ A c, ∃ l : List Nat, v = .slice A l.length c ∧ l.length ≤ maxLen ∧ (∀ n ∈ l, n ≤ 4294967295) ∧ SlAt encU 1 W A l := by
  obtain ⟨A, c, l, h1, _, h2, h3, h4⟩ := open_u32c hv h hlt
  exact ⟨A, c, l, h1, h2, h3, h4⟩
end Go.Proofs.Ytefodmbaknedkaa
