/- Arguments of layer 16: a slice of calls, each with a body in it. -/
import Derived.Test.YthdbbappojkmoaaGreatLiftB
import Derived.Test.YthdbbappojkmoaaGreatOp16
import Derived.Deep.SlicePairs
namespace Go.Proofs.YthdbbappojkmoaaGreat
open Go.ChangeShapes Go.WideShapes Go.ChangeAt Go.WideMaps Go.WideElems Go.RowKit

set_option maxRecDepth 100000 in
theorem bytes_cell16 {H : Type} {enc : TypeId × Value → H} {W : World} {fuel : Nat} {v : Value} {y : DataW H × List MemPlace}
    (hf : DataW.trod enc Tryz.prog W 0 (fun _ => true) true fuel 33 [v] = some y) (hlt : ∀ x ∈ y.2, x.block < W.heap.size) :
    ∃ A c, ∃ l : List UInt8, v = .slice A l.length c ∧ l.length ≤ maxLen ∧ ByAt W.heap.size W A c l := by
  rcases open_ints Tryz.underlying33 Tryz.underlying5 (by kernel_rfl) hf with ⟨hcs, _⟩ | ⟨a, len, cap, zs, hcs, _, hlc, hcm, hzl, hx, hi, hwf⟩
  · simp at hcs
    exact ⟨none, 0, [], hcs, Nat.zero_le _, ByAt.nil _ _ _ _⟩
  · simp at hcs
    simp only [if_true] at hzl
    have each : ∀ i, i < len → ∃ n : UInt8, W.cell? (a.add i) = some (.int .u8 (n.toNat : Int)) := by
      intro i hil
      have hc := hi i (by omega)
      have hw := bounds_u8 (hwf (zs.getD i 0) (by
        rw [List.getD_eq_getElem?_getD, List.getElem?_eq_getElem (by omega)]
        exact List.getElem_mem _))
      refine ⟨UInt8.ofNat (zs.getD i 0).toNat, ?_⟩
      rw [hc, UInt8.toNat_ofNat', Nat.mod_eq_of_lt (by omega)]
      congr 2
      omega
    obtain ⟨f, hf⟩ := Go.Deep.choose_lt each
    have hll : ((List.range len).map f).length = len := by rw [List.length_map, List.length_range]
    refine ⟨some a, _, (List.range len).map f, by rw [hll]; exact hcs, by rw [hll]; exact Nat.le_trans hlc hcm, ⟨by rw [hll]; exact hlc, ?_⟩⟩
    by_cases h0 : len = 0
    · exact .inl (by simp [h0])
    · obtain ⟨b, off, spot⟩ := a
      have hspot : spot = none := by simpa [Addr.add] using World.cell?_spot (hf 0 (by omega))
      subst hspot
      have hb : b < W.heap.size := hlt (.cell b off) (by
        rw [hx]
        exact MemPlace.mem_row.2 ⟨0, by omega, by simp⟩)
      refine .inr ⟨b, off, rfl, hb, hb, fun j hj => ?_⟩
      rw [hll] at hj
      have c0 := hf j hj
      rw [add_plain] at c0
      simpa using c0

set_option maxRecDepth 100000 in
/-- The six cells of a call. -/
theorem op_cells16 {H : Type} {enc : TypeId × Value → H} {W : World} {fuel : Nat} {cs : List Value} {x : DataW H × List MemPlace}
    (hf : DataW.trod enc Tryz.prog W 0 (fun _ => true) true fuel 35 cs = some x) (hlt : ∀ y ∈ x.2, y.block < W.heap.size) :
    ∃ o : O16, cs = enc16 o ∧ O16ok o ∧ ByAt W.heap.size W o.A o.c o.b := by
  obtain ⟨xs, n, _, hx, hl, hlen, hf⟩ := DataW.trod_struct Tryz.underlying35 hf
  have h6 : cs.length = 6 := hl.trans (by kernel_rfl)
  obtain ⟨c0, c1, c2, c3, c4, c5, rfl⟩ : ∃ c0 c1 c2 c3 c4 c5, cs = [c0, c1, c2, c3, c4, c5] := by
    match cs, h6 with
    | [c0, c1, c2, c3, c4, c5], _ => exact ⟨c0, c1, c2, c3, c4, c5, rfl⟩
  have e0 : Tryz.prog.cellsOf 3 = 1 := by kernel_rfl
  have e1 : Tryz.prog.cellsOf 27 = 1 := by kernel_rfl
  have e2 : Tryz.prog.cellsOf 32 = 1 := by kernel_rfl
  have e3 : Tryz.prog.cellsOf 33 = 1 := by kernel_rfl
  match xs, hlen with
  | [y0, y1, y2, y3, y4, y5], _ =>
    have t0 : DataW.trod enc Tryz.prog W 0 (fun _ => true) true n 3 [c0] = some y0 := by simpa [e0] using hf 0 _ rfl
    have t1 : DataW.trod enc Tryz.prog W 0 (fun _ => true) true n 3 [c1] = some y1 := by simpa [e0] using hf 1 _ rfl
    have t2 : DataW.trod enc Tryz.prog W 0 (fun _ => true) true n 27 [c2] = some y2 := by simpa [e0, e1] using hf 2 _ rfl
    have t3 : DataW.trod enc Tryz.prog W 0 (fun _ => true) true n 3 [c3] = some y3 := by simpa [e0, e1] using hf 3 _ rfl
    have t4 : DataW.trod enc Tryz.prog W 0 (fun _ => true) true n 32 [c4] = some y4 := by simpa [e0, e1, e2] using hf 4 _ rfl
    have t5 : DataW.trod enc Tryz.prog W 0 (fun _ => true) true n 33 [c5] = some y5 := by simpa [e0, e1, e2, e3] using hf 5 _ rfl
    have hp : x.2 = [y0, y1, y2, y3, y4, y5].flatMap (·.2) := by rw [hx]
    obtain ⟨i0, hi0, _, wi0⟩ := DataW.trod_int Tryz.underlying3 t0
    obtain ⟨i1, hi1, _, wi1⟩ := DataW.trod_int Tryz.underlying3 t1
    obtain ⟨i2, hi2, _, wi2⟩ := DataW.trod_int Tryz.underlying27 t2
    obtain ⟨i3, hi3, _, wi3⟩ := DataW.trod_int Tryz.underlying3 t3
    obtain ⟨i4, hi4, _, wi4⟩ := DataW.trod_int Tryz.underlying32 t4
    obtain ⟨A9, k9, l9, rfl, hl9, hS9⟩ := bytes_cell16 t5 (fun x hx => hlt x (by rw [hp]; simp [hx]))
    simp only [List.cons.injEq, and_true] at hi0 hi1 hi2 hi3 hi4
    subst hi0 hi1 hi2 hi3 hi4
    have b2 := bounds_u32 wi2
    have b4 := bounds_u8 wi4
    have u2 : ((i2.toNat : Nat) : Int) = i2 := by omega
    have u4 : ((i4.toNat : Nat) : Int) = i4 := by omega
    refine ⟨⟨i0, i1, i2.toNat, i3, i4.toNat, A9, k9, l9⟩, ?_, ⟨bounds_i64 wi0, bounds_i64 wi1, by show i2.toNat ≤ _; omega, bounds_i64 wi3, by show i4.toNat ≤ _; omega, hl9⟩, hS9⟩
    unfold enc16
    simp only [u2, u4]

set_option maxRecDepth 100000 in
theorem open_ops16 {H : Type} {enc : TypeId × Value → H} {W : World} {base : Nat} {v : Value} {d : DataW H} {p : List MemPlace}
    (hv : Value.okWide Tryz.prog W .any base 22 v) (h : DataW.Trod enc Tryz.prog W 0 (fun _ => true) true 22 v d p) (hlt : ∀ x ∈ p, x.block < W.heap.size) :
    ∃ A c, ∃ xs : List O16, v = .slice A xs.length c ∧ xs.length ≤ c ∧ xs.length ≤ maxLen ∧ (∀ o ∈ xs, O16ok o ∧ ByAt W.heap.size W o.A o.c o.b) ∧ SlAt enc16 6 W A xs := by
  obtain ⟨a0, len, cap, rfl⟩ := okWide_slice Tryz.underlying22 hv
  obtain ⟨fuel, hf⟩ := h
  have c10 : Tryz.prog.cellsOf 35 = 6 := by kernel_rfl
  rcases Go.Deep.open_slice Tryz.underlying22 hf with ⟨hcs, _⟩ | ⟨a, len', cap', m, n, D, Pl, hcs, _, hlc, hcm, hm, hx, hi⟩
  · simp [Value.cells] at hcs
    obtain ⟨rfl, rfl, rfl⟩ := hcs
    exact ⟨none, 0, [], rfl, Nat.le_refl _, Nat.zero_le _, (fun x hx => by cases hx), .inl rfl⟩
  · simp [Value.cells] at hcs
    obtain ⟨rfl, rfl, rfl⟩ := hcs
    simp only [if_true] at hm
    subst hm
    simp only [Prod.mk.injEq] at hx
    rw [c10] at hx
    have each : ∀ i, i < len → ∃ o : O16, (∀ j u, (enc16 o)[j]? = some u → W.cell? (a.add (i * 6 + j)) = some u) ∧ O16ok o ∧ ByAt W.heap.size W o.A o.c o.b := by
      intro i hil
      obtain ⟨cs', h1, h2⟩ := hi i (by omega)
      rw [c10] at h1
      obtain ⟨_, hlen, hcell⟩ := World.cells?_some h1
      obtain ⟨b, hcs, hrest⟩ := op_cells16 h2 (fun y hy => hlt y (by
        rw [hx.2]
        exact List.mem_append_right _ (List.mem_flatMap.2 ⟨i, List.mem_range.2 (by omega), hy⟩)))
      refine ⟨b, fun j u hj => ?_, hrest⟩
      have hj10 : j < 6 := (List.getElem?_eq_some_iff.1 hj).1
      have := hcell j (by omega)
      rw [hcs] at this
      rw [Go.Deep.add_add] at this
      rw [this]
      exact hj
    obtain ⟨f, hf⟩ := Go.Deep.choose_lt each
    have hll : ((List.range len).map f).length = len := by rw [List.length_map, List.length_range]
    refine ⟨some a, _, (List.range len).map f, by rw [hll], by rw [hll]; exact hlc, by rw [hll]; exact Nat.le_trans hlc hcm, fun x hx => ?_, ?_⟩
    · obtain ⟨i, hi', rfl⟩ := List.mem_map.1 hx
      exact (hf i (List.mem_range.1 hi')).2
    · by_cases h0 : len = 0
      · exact .inl (by simp [h0])
      · obtain ⟨b, off, spot⟩ := a
        have hspot : spot = none := by simpa [Addr.add] using World.cell?_spot ((hf 0 (by omega)).1 0 _ rfl)
        subst hspot
        have hb : b < W.heap.size := hlt (.cell b off) (by
          rw [hx.2]
          exact List.mem_append_left _ (MemPlace.mem_row.2 ⟨0, by omega, by simp⟩))
        refine .inr ⟨b, off, rfl, hb, fun j x hj i v hi' => ?_⟩
        have hjl : j < len := by
          have := (List.getElem?_eq_some_iff.1 hj).1
          simpa using this
        have hxj : x = f j := by
          rw [List.getElem?_map, List.getElem?_range hjl] at hj
          simpa using hj.symm
        rw [hxj] at hi'
        have := (hf j hjl).1 i v hi'
        rw [add_plain] at this
        rw [Nat.add_assoc]
        exact this
end Go.Proofs.YthdbbappojkmoaaGreat
