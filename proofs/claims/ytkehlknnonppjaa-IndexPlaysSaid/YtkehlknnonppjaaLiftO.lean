/- An argument that is a slice of calls: a kind and an identifier. -/
import Derived.Test.YtkehlknnonppjaaLiftW
import Derived.Test.YtkehlknnonppjaaOps
namespace Go.Proofs.Ytkehlknnonppjaa
open Go.ChangeShapes Go.WideShapes Go.ChangeAt Go.WideMaps Go.WideElems Go.RowKit

set_option maxRecDepth 100000 in
theorem open_ops {H : Type} {enc : TypeId × Value → H} {W : World} {base : Nat} {v : Value} {d : DataW H} {p : List MemPlace}
    (hv : Value.okWide Try.prog W .any base 23 v) (h : DataW.Trod enc Try.prog W 0 (fun _ => true) true 23 v d p) (hlt : ∀ x ∈ p, x.block < W.heap.size) :
    ∃ A c, ∃ l : List (Int × Nat), v = .slice A l.length c ∧ l.length ≤ maxLen ∧ (∀ r ∈ l, r.2 ≤ 4294967295) ∧ SlAt encO 2 W A l := by
  obtain ⟨a0, len, cap, rfl⟩ := okWide_slice Try.underlying23 hv
  obtain ⟨fuel, hf⟩ := h
  rcases Go.Deep.open_slice_pairs Try.underlying23 Try.underlying30 (by kernel_rfl) rfl rfl (by kernel_rfl) (by kernel_rfl) hf with ⟨hcs, _⟩ | ⟨a, len', cap', m, n, V0, V1, D0, D1, P0, P1, hcs, _, hlc, hcm, hm, hx, hi⟩
  · simp [Value.cells] at hcs
    obtain ⟨rfl, rfl, rfl⟩ := hcs
    exact ⟨none, 0, [], rfl, Nat.zero_le _, (fun r hr => by cases hr), .inl rfl⟩
  · simp [Value.cells] at hcs
    obtain ⟨rfl, rfl, rfl⟩ := hcs
    simp only [if_true] at hm
    subst hm
    have each : ∀ i, i < len → ∃ r : Int × Nat, r.2 ≤ 4294967295 ∧ W.cell? (a.add (i * 2)) = some (.int .i64 r.1) ∧ W.cell? (a.add (i * 2 + 1)) = some (.int .u32 (r.2 : Int)) := by
      intro i hil
      obtain ⟨c0, c1, t0, t1⟩ := hi i (by omega)
      obtain ⟨x, hx1, _, _⟩ := DataW.trod_int Try.underlying3 t0
      obtain ⟨y, hy1, _, hw2⟩ := DataW.trod_int Try.underlying28 t1
      have b2 := wf_u32 hw2
      simp only [List.cons.injEq, and_true] at hx1 hy1
      rw [hx1] at c0
      rw [hy1] at c1
      refine ⟨(x, y.toNat), by show y.toNat ≤ _; omega, ?_, ?_⟩
      · rw [c0]
      · rw [c1]; congr 2; show y = (y.toNat : Int); omega
    obtain ⟨f, hf⟩ := Go.Deep.choose_lt each
    have hll : ((List.range len).map f).length = len := by rw [List.length_map, List.length_range]
    refine ⟨some a, _, (List.range len).map f, by rw [hll], by rw [hll]; exact Nat.le_trans hlc hcm, fun r hr => ?_, ?_⟩
    · obtain ⟨i, hi', rfl⟩ := List.mem_map.1 hr
      exact (hf i (List.mem_range.1 hi')).1
    · by_cases h0 : len = 0
      · exact .inl (by simp [h0])
      · obtain ⟨b, off, spot⟩ := a
        have hspot : spot = none := by simpa [Addr.add] using World.cell?_spot (hf 0 (by omega)).2.1
        subst hspot
        have hb : b < W.heap.size := hlt (.cell b off) (by
          simp only [Prod.mk.injEq] at hx
          rw [hx.2]
          exact List.mem_append_left _ (MemPlace.mem_row.2 ⟨0, by omega, by simp⟩))
        refine .inr ⟨b, off, rfl, hb, fun j x hj i v hi' => ?_⟩
        have hjl : j < len := by
          have := (List.getElem?_eq_some_iff.1 hj).1
          simpa using this
        have hxj : x = f j := by
          rw [List.getElem?_map, List.getElem?_range hjl] at hj
          simpa using hj.symm
        obtain ⟨_, c0, c1⟩ := hf j hjl
        rw [← hxj, add_plain] at c0 c1
        have hi2 : i = 0 ∨ i = 1 := by
          have := (List.getElem?_eq_some_iff.1 hi').1
          simp [encO] at this
          omega
        rcases hi2 with rfl | rfl
        · obtain rfl : v = .int .i64 x.1 := by simpa [encO] using hi'.symm
          simpa using c0
        · obtain rfl : v = .int .u32 (x.2 : Int) := by simpa [encO] using hi'.symm
          rw [← Nat.add_assoc] at c1
          exact c1
end Go.Proofs.Ytkehlknnonppjaa
