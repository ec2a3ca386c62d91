/- An argument that is a slice of events. -/
import Derived.Test.YtefodmbaknedkaaLiftB
import Derived.Test.YtefodmbaknedkaaVb
import Derived.Deep.SlicePairs
namespace Go.Proofs.Ytefodmbaknedkaa
open Go.ChangeShapes Go.WideShapes Go.ChangeAt Go.WideMaps Go.WideElems Go.RowKit

set_option maxRecDepth 100000 in
/-- The three cells of an event. -/
theorem ev_cells {H : Type} {enc : TypeId × Value → H} {W : World} {fuel : Nat} {cs : List Value} {x : DataW H × List MemPlace}
    (hf : DataW.trod enc Try.prog W 0 (fun _ => true) true fuel 55 cs = some x) : ∃ e : EvI, cs = encEv e ∧ evOk e := by
  obtain ⟨xs, n, _, hx, hl, hlen, hf⟩ := DataW.trod_struct Try.underlying55 hf
  have h3 : cs.length = 3 := hl.trans (by kernel_rfl)
  obtain ⟨c0, c1, c2, rfl⟩ : ∃ c0 c1 c2, cs = [c0, c1, c2] := by
    match cs, h3 with
    | [c0, c1, c2], _ => exact ⟨c0, c1, c2, rfl⟩
  have e1 : Try.prog.cellsOf 3 = 1 := by kernel_rfl
  have e2 : Try.prog.cellsOf 35 = 1 := by kernel_rfl
  have e3 : Try.prog.cellsOf 44 = 1 := by kernel_rfl
  match xs, hlen with
  | [y0, y1, y2], _ =>
    have t0 : DataW.trod enc Try.prog W 0 (fun _ => true) true n 3 [c0] = some y0 := by simpa [e1] using hf 0 _ rfl
    have t1 : DataW.trod enc Try.prog W 0 (fun _ => true) true n 35 [c1] = some y1 := by simpa [e2] using hf 1 _ rfl
    have t2 : DataW.trod enc Try.prog W 0 (fun _ => true) true n 44 [c2] = some y2 := by simpa [e3] using hf 2 _ rfl
    obtain ⟨i0, hi0, _, wi0⟩ := DataW.trod_int Try.underlying3 t0
    obtain ⟨i1, hi1, _, wi1⟩ := DataW.trod_int Try.underlying35 t1
    obtain ⟨i2, hi2, _, wi2⟩ := DataW.trod_int Try.underlying44 t2
    simp only [List.cons.injEq, and_true] at hi0 hi1 hi2
    subst hi0 hi1 hi2
    have b1 := bounds_u32 wi1
    have b2 := bounds_u8 wi2
    have u1 : ((i1.toNat : Nat) : Int) = i1 := by omega
    have u2 : ((i2.toNat : Nat) : Int) = i2 := by omega
    refine ⟨⟨i0, i1.toNat, i2.toNat⟩, ?_, bounds_i64 wi0, by show i1.toNat ≤ _; omega, by show i2.toNat ≤ _; omega⟩
    unfold encEv
    simp only [u1, u2]
set_option maxRecDepth 100000 in
theorem evs_cell {H : Type} {enc : TypeId × Value → H} {W : World} {fuel : Nat} {v : Value} {y : DataW H × List MemPlace}
    (hf : DataW.trod enc Try.prog W 0 (fun _ => true) true fuel 28 [v] = some y) (hlt : ∀ x ∈ y.2, x.block < W.heap.size) :
    ∃ A c, ∃ xs : List EvI, v = .slice A xs.length c ∧ xs.length ≤ c ∧ xs.length ≤ maxLen ∧ (∀ e ∈ xs, evOk e) ∧ SlAt encEv 3 W A xs := by
  have c10 : Try.prog.cellsOf 55 = 3 := by kernel_rfl
  rcases Go.Deep.open_slice Try.underlying28 hf with ⟨hcs, _⟩ | ⟨a, len, cap', m, n, D, Pl, hcs, _, hlc, hcm, hm, hx, hi⟩
  · simp at hcs
    exact ⟨none, 0, [], hcs, Nat.le_refl _, Nat.zero_le _, (fun x hx => by cases hx), .inl rfl⟩
  · simp at hcs
    simp only [if_true] at hm
    subst hm
    rw [Prod.ext_iff] at hx
    rw [c10] at hx
    have each : ∀ i, i < len → ∃ o : EvI, (∀ j u, (encEv o)[j]? = some u → W.cell? (a.add (i * 3 + j)) = some u) ∧ evOk o := by
      intro i hil
      obtain ⟨cs', h1, h2⟩ := hi i (by omega)
      rw [c10] at h1
      obtain ⟨_, hlen, hcell⟩ := World.cells?_some h1
      obtain ⟨b, hcs, hrest⟩ := ev_cells h2
      refine ⟨b, fun j u hj => ?_, hrest⟩
      have hj10 : j < 3 := (List.getElem?_eq_some_iff.1 hj).1
      have := hcell j (by omega)
      rw [hcs] at this
      rw [Go.Deep.add_add] at this
      rw [this]
      exact hj
    obtain ⟨f, hf⟩ := Go.Deep.choose_lt each
    have hll : ((List.range len).map f).length = len := by rw [List.length_map, List.length_range]
    refine ⟨some a, _, (List.range len).map f, by rw [hll]; exact hcs, by rw [hll]; exact hlc, by rw [hll]; exact Nat.le_trans hlc hcm, fun x hx => ?_, ?_⟩
    · obtain ⟨i, hi', rfl⟩ := List.mem_map.1 hx
      exact (hf i (List.mem_range.1 hi')).2
    · by_cases h0 : len = 0
      · exact .inl (by simp [h0])
      · obtain ⟨b, off, spot⟩ := a
        have hspot : spot = none := by simpa [Addr.add] using World.cell?_spot ((hf 0 (by omega)).1 0 _ rfl)
        subst hspot
        have hb : b < W.heap.size := hlt (.cell b off) (by
          rw [hx.2]
          exact List.mem_append_left _ (MemPlace.mem_row.2 ⟨0, by omega, by simp⟩))
        refine .inr ⟨b, off, rfl, hb, fun j x hj i v hi' => ?_⟩
        have hjl : j < len := by
          have := (List.getElem?_eq_some_iff.1 hj).1
          simpa using this
        have hxj : x = f j := by
          rw [List.getElem?_map, List.getElem?_range hjl] at hj
          simpa using hj.symm
        rw [hxj] at hi'
        have := (hf j hjl).1 i v hi'
        rw [add_plain] at this
        rw [Nat.add_assoc]
        exact this
theorem open_evs15L {H : Type} {enc : TypeId × Value → H} {W : World} {base : Nat} {v : Value} {d : DataW H} {p : List MemPlace}
    (hv : Value.okWide Try.prog W .any base 28 v) (h : DataW.Trod enc Try.prog W 0 (fun _ => true) true 28 v d p) (hlt : ∀ x ∈ p, x.block < W.heap.size) :
    ∃ A c, ∃ xs : List EvI, v = .slice A xs.length c ∧ xs.length ≤ maxLen ∧ (∀ e ∈ xs, evOk e) ∧ SlAt encEv 3 W A xs := by
  obtain ⟨a0, len, cap, rfl⟩ := okWide_slice Try.underlying28 hv
  obtain ⟨fuel, hf⟩ := h
  obtain ⟨A, c, xs, h1, _, h3⟩ := evs_cell (by simpa [Value.cells] using hf) hlt
  exact ⟨A, c, xs, h1, h3⟩
theorem open_evs15C {H : Type} {enc : TypeId × Value → H} {W : World} {base : Nat} {v : Value} {d : DataW H} {p : List MemPlace}
    (hv : Value.okWide Try.prog W .any base 28 v) (h : DataW.Trod enc Try.prog W 0 (fun _ => true) true 28 v d p) (hlt : ∀ x ∈ p, x.block < W.heap.size) :
    ∃ A c, ∃ xs : List EvI, v = .slice A xs.length c ∧ xs.length ≤ c ∧ xs.length ≤ maxLen ∧ (∀ e ∈ xs, evOk e) ∧ SlAt encEv 3 W A xs := by
  obtain ⟨a0, len, cap, rfl⟩ := okWide_slice Try.underlying28 hv
  obtain ⟨fuel, hf⟩ := h
  exact evs_cell (by simpa [Value.cells] using hf) hlt
end Go.Proofs.Ytefodmbaknedkaa
