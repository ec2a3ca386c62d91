/- Arguments of layer 14: a slice of calls (an owner and a lock); a slice of ints. -/
import Derived.Test.YtpfplniokjkcbaaLiftB
import Derived.Test.YtpfplniokjkcbaaL14B
import Derived.Deep.SlicePairs
namespace Go.Proofs.Ytpfplniokjkcbaa
open Go.ChangeShapes Go.WideShapes Go.ChangeAt Go.WideMaps Go.WideElems Go.RowKit

instance : Inhabited Op14 := ⟨⟨0, 0⟩⟩
set_option maxRecDepth 100000 in
theorem open_ops14L {H : Type} {enc : TypeId × Value → H} {W : World} {base : Nat} {v : Value} {d : DataW H} {p : List MemPlace}
    (hv : Value.okWide Try.prog W .any base 22 v) (h : DataW.Trod enc Try.prog W 0 (fun _ => true) true 22 v d p) (hlt : ∀ x ∈ p, x.block < W.heap.size) :
    ∃ A c, ∃ l : List Op14, v = .slice A l.length c ∧ l.length ≤ maxLen ∧ (∀ r ∈ l, opOk r) ∧ SlAt encO14 2 W A l := by
  obtain ⟨a0, len, cap, rfl⟩ := okWide_slice Try.underlying22 hv
  obtain ⟨fuel, hf⟩ := h
  rcases Go.Deep.open_slice_pairs Try.underlying22 Try.underlying32 (by kernel_rfl) rfl rfl (by kernel_rfl) (by kernel_rfl) hf with ⟨hcs, _⟩ | ⟨a, len', cap', m, n, V0, V1, D0, D1, P0, P1, hcs, _, hlc, hcm, hm, hx, hi⟩
  · simp [Value.cells] at hcs
    obtain ⟨rfl, rfl, rfl⟩ := hcs
    exact ⟨none, 0, [], rfl, Nat.zero_le _, (fun r hr => by cases hr), .inl rfl⟩
  · simp [Value.cells] at hcs
    obtain ⟨rfl, rfl, rfl⟩ := hcs
    simp only [if_true] at hm
    subst hm
    have each : ∀ i, i < len → ∃ r : Op14, opOk r ∧ W.cell? (a.add (i * 2)) = some (.int .i64 r.o) ∧ W.cell? (a.add (i * 2 + 1)) = some (.int .i64 r.k) := by
      intro i hil
      obtain ⟨c0, c1, t0, t1⟩ := hi i (by omega)
      obtain ⟨x, hx1, _, hw1⟩ := DataW.trod_int Try.underlying3 t0
      obtain ⟨y, hy1, _, hw2⟩ := DataW.trod_int Try.underlying3 t1
      have b1 := bounds_i64 hw1
      have b2 := bounds_i64 hw2
      simp only [List.cons.injEq, and_true] at hx1 hy1
      rw [hx1] at c0
      rw [hy1] at c1
      exact ⟨⟨x, y⟩, ⟨b1, b2⟩, c0, c1⟩
    obtain ⟨f, hf⟩ := Go.Deep.choose_lt each
    have hll : ((List.range len).map f).length = len := by rw [List.length_map, List.length_range]
    refine ⟨some a, _, (List.range len).map f, by rw [hll], by rw [hll]; exact Nat.le_trans hlc hcm, fun r hr => ?_, ?_⟩
    · obtain ⟨i, hi', rfl⟩ := List.mem_map.1 hr
      exact (hf i (List.mem_range.1 hi')).1
    · by_cases h0 : len = 0
      · exact .inl (by simp [h0])
      · obtain ⟨b, off, spot⟩ := a
        have hspot : spot = none := by simpa [Addr.add] using World.cell?_spot (hf 0 (by omega)).2.1
        subst hspot
        have hb : b < W.heap.size := hlt (.cell b off) (by
          simp only [Prod.mk.injEq] at hx
          rw [hx.2]
          exact List.mem_append_left _ (MemPlace.mem_row.2 ⟨0, by omega, by simp⟩))
        refine .inr ⟨b, off, rfl, hb, fun j x hj i v hi' => ?_⟩
        have hjl : j < len := by
          have := (List.getElem?_eq_some_iff.1 hj).1
          simpa using this
        have hxj : x = f j := by
          rw [List.getElem?_map, List.getElem?_range hjl] at hj
          simpa using hj.symm
        obtain ⟨_, c0, c1⟩ := hf j hjl
        rw [← hxj, add_plain] at c0 c1
        have hi2 : i = 0 ∨ i = 1 := by
          have := (List.getElem?_eq_some_iff.1 hi').1
          simp [encO14] at this
          omega
        rcases hi2 with rfl | rfl
        · obtain rfl : v = .int .i64 x.o := by simpa [encO14] using hi'.symm
          simpa using c0
        · obtain rfl : v = .int .i64 x.k := by simpa [encO14] using hi'.symm
          rw [← Nat.add_assoc] at c1
          exact c1
set_option maxRecDepth 100000 in
theorem open_intsL {H : Type} {enc : TypeId × Value → H} {W : World} {base : Nat} {v : Value} {d : DataW H} {p : List MemPlace}
    (hv : Value.okWide Try.prog W .any base 26 v) (h : DataW.Trod enc Try.prog W 0 (fun _ => true) true 26 v d p) (hlt : ∀ x ∈ p, x.block < W.heap.size) :
    ∃ A c, ∃ l : List Int, v = .slice A l.length c ∧ l.length ≤ maxLen ∧ (∀ n ∈ l, -9223372036854775808 ≤ n ∧ n ≤ 9223372036854775807) ∧ SlAt encI 1 W A l := by
  obtain ⟨a0, len, cap, rfl⟩ := okWide_slice Try.underlying26 hv
  obtain ⟨fuel, hf⟩ := h
  rcases open_ints Try.underlying26 Try.underlying3 (by kernel_rfl) hf with ⟨hcs, _⟩ | ⟨a, len', cap', zs, hcs, _, hlc, hcm, hzl, hx, hi, hwf⟩
  · simp [Value.cells] at hcs
    obtain ⟨rfl, rfl, rfl⟩ := hcs
    exact ⟨none, 0, [], rfl, Nat.zero_le _, (fun r hr => by cases hr), .inl rfl⟩
  · simp [Value.cells] at hcs
    obtain ⟨rfl, rfl, rfl⟩ := hcs
    simp only [if_true] at hzl
    have each : ∀ i, i < len → ∃ n : Int, (-9223372036854775808 ≤ n ∧ n ≤ 9223372036854775807) ∧ W.cell? (a.add i) = some (.int .i64 n) := by
      intro i hil
      have hc := hi i (by omega)
      have hw := bounds_i64 (hwf (zs.getD i 0) (by
        rw [List.getD_eq_getElem?_getD, List.getElem?_eq_getElem (by omega)]
        exact List.getElem_mem _))
      exact ⟨zs.getD i 0, hw, hc⟩
    obtain ⟨f, hf⟩ := Go.Deep.choose_lt each
    have hll : ((List.range len).map f).length = len := by rw [List.length_map, List.length_range]
    refine ⟨some a, _, (List.range len).map f, by rw [hll], by rw [hll]; exact Nat.le_trans hlc hcm, fun r hr => ?_, ?_⟩
    · obtain ⟨i, hi', rfl⟩ := List.mem_map.1 hr
      exact (hf i (List.mem_range.1 hi')).1
    · by_cases h0 : len = 0
      · exact .inl (by simp [h0])
      · obtain ⟨b, off, spot⟩ := a
        have hspot : spot = none := by simpa [Addr.add] using World.cell?_spot (hf 0 (by omega)).2
        subst hspot
        have hb : b < W.heap.size := hlt (.cell b off) (by
          simp only [Prod.mk.injEq] at hx
          rw [hx.2]
          exact MemPlace.mem_row.2 ⟨0, by omega, by simp⟩)
        refine .inr ⟨b, off, rfl, hb, fun j x hj i v hi' => ?_⟩
        have hjl : j < len := by
          have := (List.getElem?_eq_some_iff.1 hj).1
          simpa using this
        have hxj : x = f j := by
          rw [List.getElem?_map, List.getElem?_range hjl] at hj
          simpa using hj.symm
        have c0 := (hf j hjl).2
        rw [← hxj, add_plain] at c0
        obtain rfl : i = 0 := by
          have := (List.getElem?_eq_some_iff.1 hi').1
          simpa [encI] using this
        obtain rfl : v = .int .i64 x := by simpa [encI] using hi'.symm
        simpa using c0

end Go.Proofs.Ytpfplniokjkcbaa
