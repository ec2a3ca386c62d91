/- An argument of layer 17: a slice of slices of events. -/
import Derived.Test.YtefodmbaknedkaaLiftEv
import Derived.Test.YtefodmbaknedkaaL17Y
namespace Go.Proofs.Ytefodmbaknedkaa
open Go.ChangeShapes Go.WideShapes Go.ChangeAt Go.WideMaps Go.WideElems Go.RowKit

instance : Inhabited EvL := ⟨⟨none, 0, []⟩⟩
theorem evl_cells17 {H : Type} {enc : TypeId × Value → H} {W : World} {fuel : Nat} {cs : List Value} {x : DataW H × List MemPlace}
    (hl : cs.length = 1) (hf : DataW.trod enc Try.prog W 0 (fun _ => true) true fuel 28 cs = some x) (hlt : ∀ y ∈ x.2, y.block < W.heap.size) :
    ∃ o : EvL, cs = encEL o ∧ (o.es.length ≤ maxLen ∧ o.es.length ≤ o.c) ∧ SlAt encEv 3 W o.A o.es ∧ ∀ e ∈ o.es, evOk e := by
  obtain ⟨c0, rfl⟩ : ∃ c0, cs = [c0] := by
    match cs, hl with
    | [c0], _ => exact ⟨c0, rfl⟩
  obtain ⟨A, c, es, rfl, h0, h1, h2, h3⟩ := evs_cell hf hlt
  exact ⟨⟨A, c, es⟩, rfl, ⟨h1, h0⟩, h3, h2⟩
set_option maxRecDepth 100000 in
theorem open_evss17L {H : Type} {enc : TypeId × Value → H} {W : World} {base : Nat} {v : Value} {d : DataW H} {p : List MemPlace}
    (hv : Value.okWide Try.prog W .any base 23 v) (h : DataW.Trod enc Try.prog W 0 (fun _ => true) true 23 v d p) (hlt : ∀ x ∈ p, x.block < W.heap.size) :
    ∃ A c, ∃ xs : List EvL, v = .slice A xs.length c ∧ xs.length ≤ maxLen ∧ (∀ o ∈ xs, (o.es.length ≤ maxLen ∧ o.es.length ≤ o.c) ∧ SlAt encEv 3 W o.A o.es ∧ ∀ e ∈ o.es, evOk e) ∧ SlAt encEL 1 W A xs := by
  obtain ⟨a0, len, cap, rfl⟩ := okWide_slice Try.underlying23 hv
  obtain ⟨fuel, hf⟩ := h
  have c10 : Try.prog.cellsOf 28 = 1 := by kernel_rfl
  rcases Go.Deep.open_slice Try.underlying23 hf with ⟨hcs, _⟩ | ⟨a, len', cap', m, n, D, Pl, hcs, _, hlc, hcm, hm, hx, hi⟩
  · simp [Value.cells] at hcs
    obtain ⟨rfl, rfl, rfl⟩ := hcs
    exact ⟨none, 0, [], rfl, Nat.zero_le _, (fun x hx => by cases hx), .inl rfl⟩
  · simp [Value.cells] at hcs
    obtain ⟨rfl, rfl, rfl⟩ := hcs
    simp only [if_true] at hm
    subst hm
    simp only [Prod.mk.injEq] at hx
    rw [c10] at hx
    have each : ∀ i, i < len → ∃ o : EvL, (∀ j u, (encEL o)[j]? = some u → W.cell? (a.add (i * 1 + j)) = some u) ∧ ((o.es.length ≤ maxLen ∧ o.es.length ≤ o.c) ∧ SlAt encEv 3 W o.A o.es ∧ ∀ e ∈ o.es, evOk e) := by
      intro i hil
      obtain ⟨cs', h1, h2⟩ := hi i (by omega)
      rw [c10] at h1
      obtain ⟨_, hlen, hcell⟩ := World.cells?_some h1
      obtain ⟨b, hcs, hrest⟩ := evl_cells17 hlen h2 (fun y hy => hlt y (by
        rw [hx.2]
        exact List.mem_append_right _ (List.mem_flatMap.2 ⟨i, List.mem_range.2 (by omega), hy⟩)))
      refine ⟨b, fun j u hj => ?_, hrest⟩
      have hj10 : j < 1 := (List.getElem?_eq_some_iff.1 hj).1
      have := hcell j (by omega)
      rw [hcs] at this
      rw [Go.Deep.add_add] at this
      rw [this]
      exact hj
    obtain ⟨f, hf⟩ := Go.Deep.choose_lt each
    have hll : ((List.range len).map f).length = len := by rw [List.length_map, List.length_range]
    refine ⟨some a, _, (List.range len).map f, by rw [hll], by rw [hll]; exact Nat.le_trans hlc hcm, fun x hx => ?_, ?_⟩
    · obtain ⟨i, hi', rfl⟩ := List.mem_map.1 hx
      exact (hf i (List.mem_range.1 hi')).2
    · by_cases h0 : len = 0
      · exact .inl (by simp [h0])
      · obtain ⟨b, off, spot⟩ := a
        have hspot : spot = none := by simpa [Addr.add] using World.cell?_spot ((hf 0 (by omega)).1 0 _ rfl)
        subst hspot
        have hb : b < W.heap.size := hlt (.cell b off) (by
          rw [hx.2]
          exact List.mem_append_left _ (MemPlace.mem_row.2 ⟨0, by omega, by simp⟩))
        refine .inr ⟨b, off, rfl, hb, fun j x hj i v hi' => ?_⟩
        have hjl : j < len := by
          have := (List.getElem?_eq_some_iff.1 hj).1
          simpa using this
        have hxj : x = f j := by
          rw [List.getElem?_map, List.getElem?_range hjl] at hj
          simpa using hj.symm
        rw [hxj] at hi'
        have := (hf j hjl).1 i v hi'
        rw [add_plain] at this
        rw [Nat.add_assoc]
        exact this
end Go.Proofs.Ytefodmbaknedkaa
