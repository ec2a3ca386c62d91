/- Arguments of layer 13: a message; a slice of calls, each with a message in it. -/
import Derived.Test.YtcfpdflaabfdkaaLiftB
import Derived.Test.YtcfpdflaabfdkaaOps13
import Derived.Deep.SlicePairs
namespace Go.Proofs.Ytcfpdflaabfdkaa
open Go.ChangeShapes Go.WideShapes Go.ChangeAt Go.WideMaps Go.WideElems Go.RowKit

set_option maxRecDepth 100000 in
theorem bytes_cell13 {H : Type} {enc : TypeId × Value → H} {W : World} {fuel : Nat} {v : Value} {y : DataW H × List MemPlace}
    (hf : DataW.trod enc Try.prog W 0 (fun _ => true) true fuel 31 [v] = some y) (hlt : ∀ x ∈ y.2, x.block < W.heap.size) :
    ∃ A c, ∃ l : List UInt8, v = .slice A l.length c ∧ l.length ≤ maxLen ∧ ByAt W.heap.size W A c l := by
  rcases open_ints Try.underlying31 Try.underlying5 (by kernel_rfl) hf with ⟨hcs, _⟩ | ⟨a, len, cap, zs, hcs, _, hlc, hcm, hzl, hx, hi, hwf⟩
  · simp at hcs
    exact ⟨none, 0, [], hcs, Nat.zero_le _, ByAt.nil _ _ _ _⟩
  · simp at hcs
    simp only [if_true] at hzl
    have each : ∀ i, i < len → ∃ n : UInt8, W.cell? (a.add i) = some (.int .u8 (n.toNat : Int)) := by
      intro i hil
      have hc := hi i (by omega)
      have hw := bounds_u8 (hwf (zs.getD i 0) (by
        rw [List.getD_eq_getElem?_getD, List.getElem?_eq_getElem (by omega)]
        exact List.getElem_mem _))
      refine ⟨UInt8.ofNat (zs.getD i 0).toNat, ?_⟩
      rw [hc, UInt8.toNat_ofNat', Nat.mod_eq_of_lt (by omega)]
      congr 2
      omega
    obtain ⟨f, hf⟩ := Go.Deep.choose_lt each
    have hll : ((List.range len).map f).length = len := by rw [List.length_map, List.length_range]
    refine ⟨some a, _, (List.range len).map f, by rw [hll]; exact hcs, by rw [hll]; exact Nat.le_trans hlc hcm, ⟨by rw [hll]; exact hlc, ?_⟩⟩
    by_cases h0 : len = 0
    · exact .inl (by simp [h0])
    · obtain ⟨b, off, spot⟩ := a
      have hspot : spot = none := by simpa [Addr.add] using World.cell?_spot (hf 0 (by omega))
      subst hspot
      have hb : b < W.heap.size := hlt (.cell b off) (by
        rw [hx]
        exact MemPlace.mem_row.2 ⟨0, by omega, by simp⟩)
      refine .inr ⟨b, off, rfl, hb, hb, fun j hj => ?_⟩
      rw [hll] at hj
      have c0 := hf j hj
      rw [add_plain] at c0
      simpa using c0

set_option maxRecDepth 100000 in
/-- The three cells of a message. -/
theorem msg_cells {H : Type} {enc : TypeId × Value → H} {W : World} {fuel : Nat} {cs : List Value} {x : DataW H × List MemPlace}
    (hf : DataW.trod enc Try.prog W 0 (fun _ => true) true fuel 33 cs = some x) (hlt : ∀ y ∈ x.2, y.block < W.heap.size) :
    ∃ m : MI, cs = encM m ∧ MIok m ∧ ByAt W.heap.size W m.A m.k m.b := by
  obtain ⟨xs, n, _, hx, hl, hlen, hf⟩ := DataW.trod_struct Try.underlying33 hf
  have h3 : cs.length = 3 := hl.trans (by kernel_rfl)
  obtain ⟨c0, c1, c2, rfl⟩ : ∃ c0 c1 c2, cs = [c0, c1, c2] := by
    match cs, h3 with
    | [c0, c1, c2], _ => exact ⟨c0, c1, c2, rfl⟩
  have e1 : Try.prog.cellsOf 29 = 1 := by kernel_rfl
  have e2 : Try.prog.cellsOf 30 = 1 := by kernel_rfl
  have e3 : Try.prog.cellsOf 31 = 1 := by kernel_rfl
  match xs, hlen with
  | [y0, y1, y2], _ =>
    have t0 : DataW.trod enc Try.prog W 0 (fun _ => true) true n 29 [c0] = some y0 := by simpa [e1] using hf 0 _ rfl
    have t1 : DataW.trod enc Try.prog W 0 (fun _ => true) true n 30 [c1] = some y1 := by simpa [e2] using hf 1 _ rfl
    have t2 : DataW.trod enc Try.prog W 0 (fun _ => true) true n 31 [c2] = some y2 := by simpa [e3] using hf 2 _ rfl
    have hp : x.2 = [y0, y1, y2].flatMap (·.2) := by rw [hx]
    obtain ⟨i0, hi0, _, wi0⟩ := DataW.trod_int Try.underlying29 t0
    obtain ⟨i1, hi1, _, wi1⟩ := DataW.trod_int Try.underlying30 t1
    obtain ⟨A9, k9, l9, rfl, hl9, hS9⟩ := bytes_cell13 t2 (fun x hx => hlt x (by rw [hp]; simp [hx]))
    simp only [List.cons.injEq, and_true] at hi0 hi1
    subst hi0 hi1
    have b0 := bounds_u32 wi0
    have b1 := bounds_u8 wi1
    have u0 : ((i0.toNat : Nat) : Int) = i0 := by omega
    have u1 : ((i1.toNat : Nat) : Int) = i1 := by omega
    refine ⟨⟨i0.toNat, i1.toNat, A9, k9, l9⟩, ?_, ⟨by show i0.toNat ≤ _; omega, by show i1.toNat ≤ _; omega, hl9⟩, hS9⟩
    unfold encM
    simp only [u0, u1]

set_option maxRecDepth 100000 in
theorem open_msg13 {H : Type} {enc : TypeId × Value → H} {W : World} {base : Nat} {v : Value} {d : DataW H} {p : List MemPlace}
    (hv : Value.okWide Try.prog W .any base 33 v) (h : DataW.Trod enc Try.prog W 0 (fun _ => true) true 33 v d p) (hlt : ∀ x ∈ p, x.block < W.heap.size) :
    ∃ m : MI, v = msV m ∧ MIok m ∧ ByAt W.heap.size W m.A m.k m.b := by
  obtain ⟨cs, rfl, _⟩ := okWide_struct Try.underlying33 hv
  obtain ⟨fuel, hf⟩ := h
  obtain ⟨m, hcs, h1, h3⟩ := msg_cells hf hlt
  refine ⟨m, ?_, h1, h3⟩
  unfold msV
  congr 1
  apply Array.toList_inj.1
  exact hcs

set_option maxRecDepth 100000 in
/-- The five cells of a call. -/
theorem op_cells {H : Type} {enc : TypeId × Value → H} {W : World} {fuel : Nat} {cs : List Value} {x : DataW H × List MemPlace}
    (hf : DataW.trod enc Try.prog W 0 (fun _ => true) true fuel 35 cs = some x) (hlt : ∀ y ∈ x.2, y.block < W.heap.size) :
    ∃ o : OI, cs = encP o ∧ MIok o.m ∧ (-9223372036854775808 ≤ o.kind ∧ o.kind ≤ 9223372036854775807) ∧ (-9223372036854775808 ≤ o.mode ∧ o.mode ≤ 9223372036854775807) ∧ ByAt W.heap.size W o.m.A o.m.k o.m.b := by
  obtain ⟨xs, n, _, hx, hl, hlen, hf⟩ := DataW.trod_struct Try.underlying35 hf
  have h3 : cs.length = 5 := hl.trans (by kernel_rfl)
  obtain ⟨c0, c1, c2, c3, c4, rfl⟩ : ∃ c0 c1 c2 c3 c4, cs = [c0, c1, c2, c3, c4] := by
    match cs, h3 with
    | [c0, c1, c2, c3, c4], _ => exact ⟨c0, c1, c2, c3, c4, rfl⟩
  have e1 : Try.prog.cellsOf 3 = 1 := by kernel_rfl
  have e2 : Try.prog.cellsOf 33 = 3 := by kernel_rfl
  match xs, hlen with
  | [y0, y1, y2], _ =>
    have t0 : DataW.trod enc Try.prog W 0 (fun _ => true) true n 3 [c0] = some y0 := by simpa [e1] using hf 0 _ rfl
    have t1 : DataW.trod enc Try.prog W 0 (fun _ => true) true n 33 [c1, c2, c3] = some y1 := by simpa [e1, e2] using hf 1 _ rfl
    have t2 : DataW.trod enc Try.prog W 0 (fun _ => true) true n 3 [c4] = some y2 := by simpa [e1, e2] using hf 2 _ rfl
    have hp : x.2 = [y0, y1, y2].flatMap (·.2) := by rw [hx]
    obtain ⟨i0, hi0, _, wi0⟩ := DataW.trod_int Try.underlying3 t0
    obtain ⟨m, hm, hok, hby⟩ := msg_cells t1 (fun x hx => hlt x (by rw [hp]; simp [hx]))
    obtain ⟨i2, hi2, _, wi2⟩ := DataW.trod_int Try.underlying3 t2
    simp only [List.cons.injEq, and_true] at hi0 hi2
    subst hi0 hi2
    simp only [encM, List.cons.injEq, and_true] at hm
    obtain ⟨rfl, rfl, rfl⟩ := hm
    exact ⟨⟨i0, m, i2⟩, rfl, hok, bounds_i64 wi0, bounds_i64 wi2, hby⟩

instance : Inhabited OI := ⟨⟨0, ⟨0, 0, none, 0, []⟩, 0⟩⟩
set_option maxRecDepth 100000 in
theorem open_ops13 {H : Type} {enc : TypeId × Value → H} {W : World} {base : Nat} {v : Value} {d : DataW H} {p : List MemPlace}
    (hv : Value.okWide Try.prog W .any base 22 v) (h : DataW.Trod enc Try.prog W 0 (fun _ => true) true 22 v d p) (hlt : ∀ x ∈ p, x.block < W.heap.size) :
    ∃ A c, ∃ xs : List OI, v = .slice A xs.length c ∧ xs.length ≤ c ∧ xs.length ≤ maxLen ∧ (∀ o ∈ xs, MIok o.m ∧ (-9223372036854775808 ≤ o.kind ∧ o.kind ≤ 9223372036854775807) ∧ (-9223372036854775808 ≤ o.mode ∧ o.mode ≤ 9223372036854775807) ∧ ByAt W.heap.size W o.m.A o.m.k o.m.b) ∧ SlAt encP 5 W A xs := by
  obtain ⟨a0, len, cap, rfl⟩ := okWide_slice Try.underlying22 hv
  obtain ⟨fuel, hf⟩ := h
  have c10 : Try.prog.cellsOf 35 = 5 := by kernel_rfl
  rcases Go.Deep.open_slice Try.underlying22 hf with ⟨hcs, _⟩ | ⟨a, len', cap', m, n, D, Pl, hcs, _, hlc, hcm, hm, hx, hi⟩
  · simp [Value.cells] at hcs
    obtain ⟨rfl, rfl, rfl⟩ := hcs
    exact ⟨none, 0, [], rfl, Nat.le_refl _, Nat.zero_le _, (fun x hx => by cases hx), .inl rfl⟩
  · simp [Value.cells] at hcs
    obtain ⟨rfl, rfl, rfl⟩ := hcs
    simp only [if_true] at hm
    subst hm
    simp only [Prod.mk.injEq] at hx
    rw [c10] at hx
    have each : ∀ i, i < len → ∃ o : OI, (∀ j u, (encP o)[j]? = some u → W.cell? (a.add (i * 5 + j)) = some u) ∧ MIok o.m ∧ (-9223372036854775808 ≤ o.kind ∧ o.kind ≤ 9223372036854775807) ∧ (-9223372036854775808 ≤ o.mode ∧ o.mode ≤ 9223372036854775807) ∧ ByAt W.heap.size W o.m.A o.m.k o.m.b := by
      intro i hil
      obtain ⟨cs', h1, h2⟩ := hi i (by omega)
      rw [c10] at h1
      obtain ⟨_, hlen, hcell⟩ := World.cells?_some h1
      obtain ⟨b, hcs, hrest⟩ := op_cells h2 (fun y hy => hlt y (by
        rw [hx.2]
        exact List.mem_append_right _ (List.mem_flatMap.2 ⟨i, List.mem_range.2 (by omega), hy⟩)))
      refine ⟨b, fun j u hj => ?_, hrest⟩
      have hj10 : j < 5 := (List.getElem?_eq_some_iff.1 hj).1
      have := hcell j (by omega)
      rw [hcs] at this
      rw [Go.Deep.add_add] at this
      rw [this]
      exact hj
    obtain ⟨f, hf⟩ := Go.Deep.choose_lt each
    have hll : ((List.range len).map f).length = len := by rw [List.length_map, List.length_range]
    refine ⟨some a, _, (List.range len).map f, by rw [hll], by rw [hll]; exact hlc, by rw [hll]; exact Nat.le_trans hlc hcm, fun x hx => ?_, ?_⟩
    · obtain ⟨i, hi', rfl⟩ := List.mem_map.1 hx
      exact (hf i (List.mem_range.1 hi')).2
    · by_cases h0 : len = 0
      · exact .inl (by simp [h0])
      · obtain ⟨b, off, spot⟩ := a
        have hspot : spot = none := by simpa [Addr.add] using World.cell?_spot ((hf 0 (by omega)).1 0 _ rfl)
        subst hspot
        have hb : b < W.heap.size := hlt (.cell b off) (by
          rw [hx.2]
          exact List.mem_append_left _ (MemPlace.mem_row.2 ⟨0, by omega, by simp⟩))
        refine .inr ⟨b, off, rfl, hb, fun j x hj i v hi' => ?_⟩
        have hjl : j < len := by
          have := (List.getElem?_eq_some_iff.1 hj).1
          simpa using this
        have hxj : x = f j := by
          rw [List.getElem?_map, List.getElem?_range hjl] at hj
          simpa using hj.symm
        rw [hxj] at hi'
        have := (hf j hjl).1 i v hi'
        rw [add_plain] at this
        rw [Nat.add_assoc]
        exact this
end Go.Proofs.Ytcfpdflaabfdkaa
