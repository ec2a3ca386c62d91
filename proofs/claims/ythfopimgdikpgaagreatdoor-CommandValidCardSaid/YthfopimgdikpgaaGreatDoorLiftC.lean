/- An argument that is a command: a struct of nine fields, two of them slices. -/
import Derived.Test.YthfopimgdikpgaaGreatDoorLiftY
import Derived.Test.YthfopimgdikpgaaGreatDoorGs
import Derived.Test.YthfopimgdikpgaaGreatDoorSame7
import Derived.Deep.SlicePairs
namespace Go.Proofs.YthfopimgdikpgaaGreatDoor
open Go.ChangeShapes Go.WideShapes Go.ChangeAt Go.WideMaps Go.WideElems Go.RowKit

theorem wf_u32 {x : Int} (h : (Lit.int .u32 x).wf = true) : 0 ≤ x ∧ x ≤ 4294967295 := by
  have := bounds_u32 h
  omega

set_option maxRecDepth 100000 in
theorem bytes_cell {H : Type} {enc : TypeId × Value → H} {W : World} {fuel : Nat} {v : Value} {y : DataW H × List MemPlace}
    (hf : DataW.trod enc Tryz.prog W 0 (fun _ => true) true fuel 22 [v] = some y) (hlt : ∀ x ∈ y.2, x.block < W.heap.size) :
    ∃ A c, ∃ l : List UInt8, v = .slice A l.length c ∧ l.length ≤ maxLen ∧ ByAt W.heap.size W A c l := by
  rcases open_ints Tryz.underlying22 Tryz.underlying5 (by kernel_rfl) hf with ⟨hcs, _⟩ | ⟨a, len, cap, zs, hcs, _, hlc, hcm, hzl, hx, hi, hwf⟩
  · simp at hcs
    exact ⟨none, 0, [], hcs, Nat.zero_le _, ByAt.nil _ _ _ _⟩
  · simp at hcs
    simp only [if_true] at hzl
    have each : ∀ i, i < len → ∃ n : UInt8, W.cell? (a.add i) = some (.int .u8 (n.toNat : Int)) := by
      intro i hil
      have hc := hi i (by omega)
      have hw := wf_u8 (hwf (zs.getD i 0) (by
        rw [List.getD_eq_getElem?_getD, List.getElem?_eq_getElem (by omega)]
        exact List.getElem_mem _))
      refine ⟨UInt8.ofNat (zs.getD i 0).toNat, ?_⟩
      rw [hc, UInt8.toNat_ofNat', Nat.mod_eq_of_lt (by omega)]
      congr 2
      omega
    obtain ⟨f, hf⟩ := Go.Deep.choose_lt each
    have hll : ((List.range len).map f).length = len := by rw [List.length_map, List.length_range]
    refine ⟨some a, _, (List.range len).map f, by rw [hll]; exact hcs, by rw [hll]; exact Nat.le_trans hlc hcm, ⟨by rw [hll]; exact hlc, ?_⟩⟩
    by_cases h0 : len = 0
    · exact .inl (by simp [h0])
    · obtain ⟨b, off, spot⟩ := a
      have hspot : spot = none := by simpa [Addr.add] using World.cell?_spot (hf 0 (by omega))
      subst hspot
      have hb : b < W.heap.size := hlt (.cell b off) (by
        rw [hx]
        exact MemPlace.mem_row.2 ⟨0, by omega, by simp⟩)
      refine .inr ⟨b, off, rfl, hb, hb, fun j hj => ?_⟩
      rw [hll] at hj
      have c0 := hf j hj
      rw [add_plain] at c0
      simpa using c0

set_option maxRecDepth 100000 in
theorem ranges_cell {H : Type} {enc : TypeId × Value → H} {W : World} {fuel : Nat} {v : Value} {y : DataW H × List MemPlace}
    (hf : DataW.trod enc Tryz.prog W 0 (fun _ => true) true fuel 24 [v] = some y) (hlt : ∀ x ∈ y.2, x.block < W.heap.size) :
    ∃ A c, ∃ l : List R, v = .slice A l.length c ∧ l.length ≤ c ∧ l.length ≤ maxLen ∧ (∀ r ∈ l, r.1 ≤ 4294967295 ∧ r.2 ≤ 4294967295) ∧ SlAt encR 2 W A l := by
  rcases Go.Deep.open_slice_pairs Tryz.underlying24 Tryz.underlying47 (by kernel_rfl) rfl rfl (by kernel_rfl) (by kernel_rfl) hf with ⟨hcs, _⟩ | ⟨a, len, cap, m, n, V0, V1, D0, D1, P0, P1, hcs, _, hlc, hcm, hm, hx, hi⟩
  · simp at hcs
    exact ⟨none, 0, [], hcs, Nat.le_refl _, Nat.zero_le _, (fun r hr => by cases hr), .inl rfl⟩
  · simp at hcs
    simp only [if_true] at hm
    subst hm
    have each : ∀ i, i < len → ∃ r : R, (r.1 ≤ 4294967295 ∧ r.2 ≤ 4294967295) ∧ W.cell? (a.add (i * 2)) = some (.int .u32 (r.1 : Int)) ∧ W.cell? (a.add (i * 2 + 1)) = some (.int .u32 (r.2 : Int)) := by
      intro i hil
      obtain ⟨c0, c1, t0, t1⟩ := hi i (by omega)
      obtain ⟨x, hx1, _, hw1⟩ := DataW.trod_int Tryz.underlying45 t0
      obtain ⟨y, hy1, _, hw2⟩ := DataW.trod_int Tryz.underlying45 t1
      have b1 := wf_u32 hw1
      have b2 := wf_u32 hw2
      simp only [List.cons.injEq, and_true] at hx1 hy1
      rw [hx1] at c0
      rw [hy1] at c1
      refine ⟨(x.toNat, y.toNat), ⟨by show x.toNat ≤ _; omega, by show y.toNat ≤ _; omega⟩, ?_, ?_⟩
      · rw [c0]; congr 2; show x = (x.toNat : Int); omega
      · rw [c1]; congr 2; show y = (y.toNat : Int); omega
    obtain ⟨f, hf⟩ := Go.Deep.choose_lt each
    have hll : ((List.range len).map f).length = len := by rw [List.length_map, List.length_range]
    refine ⟨some a, _, (List.range len).map f, by rw [hll]; exact hcs, by rw [hll]; exact hlc, by rw [hll]; exact Nat.le_trans hlc hcm, fun r hr => ?_, ?_⟩
    · obtain ⟨i, hi', rfl⟩ := List.mem_map.1 hr
      exact (hf i (List.mem_range.1 hi')).1
    · by_cases h0 : len = 0
      · exact .inl (by simp [h0])
      · obtain ⟨b, off, spot⟩ := a
        have hspot : spot = none := by simpa [Addr.add] using World.cell?_spot (hf 0 (by omega)).2.1
        subst hspot
        have hb : b < W.heap.size := hlt (.cell b off) (by
          rw [hx]
          exact List.mem_append_left _ (MemPlace.mem_row.2 ⟨0, by omega, by simp⟩))
        refine .inr ⟨b, off, rfl, hb, fun j x hj i v hi' => ?_⟩
        have hjl : j < len := by
          have := (List.getElem?_eq_some_iff.1 hj).1
          simpa using this
        have hxj : x = f j := by
          rw [List.getElem?_map, List.getElem?_range hjl] at hj
          simpa using hj.symm
        obtain ⟨_, c0, c1⟩ := hf j hjl
        rw [← hxj, add_plain] at c0 c1
        have hi2 : i = 0 ∨ i = 1 := by
          have := (List.getElem?_eq_some_iff.1 hi').1
          simp [encR] at this
          omega
        rcases hi2 with rfl | rfl
        · obtain rfl : v = .int .u32 (x.1 : Int) := by simpa [encR] using hi'.symm
          simpa using c0
        · obtain rfl : v = .int .u32 (x.2 : Int) := by simpa [encR] using hi'.symm
          rw [← Nat.add_assoc] at c1
          exact c1

/-- What a command's fields keep to. -/
structure CIok (a : CI) : Prop where
  tag : a.tag.length ≤ maxLen
  mbox : a.mbox.length ≤ maxLen
  set : a.set.length ≤ maxLen
  data : a.data.length ≤ maxLen
  kind : -9223372036854775808 ≤ a.kind ∧ a.kind ≤ 9223372036854775807
  items : -9223372036854775808 ≤ a.items ∧ a.items ≤ 9223372036854775807
  mode : -9223372036854775808 ≤ a.mode ∧ a.mode ≤ 9223372036854775807
  flags : 0 ≤ a.flags ∧ a.flags ≤ 255
def ciV (a : CI) (A1 A2 : Option Addr) (k1 k2 : Nat) : Value := .agg #[.string ⟨a.tag.toArray⟩, .int .i64 a.kind, .string ⟨a.mbox.toArray⟩, .slice A1 a.set.length k1, .int .i64 a.items, .int .i64 a.mode, .bool a.silent, .int .u8 a.flags, .slice A2 a.data.length k2]

set_option maxRecDepth 100000 in
theorem open_cmd {H : Type} {enc : TypeId × Value → H} {W : World} {base : Nat} {v : Value} {d : DataW H} {p : List MemPlace}
    (hv : Value.okWide Tryz.prog W .any base 27 v) (h : DataW.Trod enc Tryz.prog W 0 (fun _ => true) true 27 v d p) (hlt : ∀ x ∈ p, x.block < W.heap.size) :
    ∃ (a : CI) (A1 A2 : Option Addr) (k1 k2 : Nat), v = ciV a A1 A2 k1 k2 ∧ CIok a ∧ SlAt encR 2 W A1 a.set ∧ ByAt W.heap.size W A2 k2 a.data := by
  obtain ⟨cs, rfl, hsz⟩ := okWide_struct Tryz.underlying27 hv
  obtain ⟨fuel, hf⟩ := h
  obtain ⟨xs, n, _, hx, hl, hlen, hf⟩ := DataW.trod_struct Tryz.underlying27 hf
  have h9 : cs.size = 9 := hsz.trans (by kernel_rfl)
  obtain ⟨c0, c1, c2, c3, c4, c5, c6, c7, c8, rfl⟩ : ∃ c0 c1 c2 c3 c4 c5 c6 c7 c8, cs = #[c0, c1, c2, c3, c4, c5, c6, c7, c8] := by
    obtain ⟨l⟩ := cs
    match l, h9 with
    | [c0, c1, c2, c3, c4, c5, c6, c7, c8], _ => exact ⟨c0, c1, c2, c3, c4, c5, c6, c7, c8, rfl⟩
  have e1 : Tryz.prog.cellsOf 9 = 1 := by kernel_rfl
  have e2 : Tryz.prog.cellsOf 3 = 1 := by kernel_rfl
  have e3 : Tryz.prog.cellsOf 24 = 1 := by kernel_rfl
  have e4 : Tryz.prog.cellsOf 4 = 1 := by kernel_rfl
  have e5 : Tryz.prog.cellsOf 25 = 1 := by kernel_rfl
  have e6 : Tryz.prog.cellsOf 22 = 1 := by kernel_rfl
  match xs, hlen with
  | [y0, y1, y2, y3, y4, y5, y6, y7, y8], _ =>
    have t0 : DataW.trod enc Tryz.prog W 0 (fun _ => true) true n 9 [c0] = some y0 := by simpa [Value.cells, e1] using hf 0 _ rfl
    have t1 : DataW.trod enc Tryz.prog W 0 (fun _ => true) true n 3 [c1] = some y1 := by simpa [Value.cells, e2] using hf 1 _ rfl
    have t2 : DataW.trod enc Tryz.prog W 0 (fun _ => true) true n 9 [c2] = some y2 := by simpa [Value.cells, e1] using hf 2 _ rfl
    have t3 : DataW.trod enc Tryz.prog W 0 (fun _ => true) true n 24 [c3] = some y3 := by simpa [Value.cells, e3] using hf 3 _ rfl
    have t4 : DataW.trod enc Tryz.prog W 0 (fun _ => true) true n 3 [c4] = some y4 := by simpa [Value.cells, e2] using hf 4 _ rfl
    have t5 : DataW.trod enc Tryz.prog W 0 (fun _ => true) true n 3 [c5] = some y5 := by simpa [Value.cells, e2] using hf 5 _ rfl
    have t6 : DataW.trod enc Tryz.prog W 0 (fun _ => true) true n 4 [c6] = some y6 := by simpa [Value.cells, e4] using hf 6 _ rfl
    have t7 : DataW.trod enc Tryz.prog W 0 (fun _ => true) true n 25 [c7] = some y7 := by simpa [Value.cells, e5] using hf 7 _ rfl
    have t8 : DataW.trod enc Tryz.prog W 0 (fun _ => true) true n 22 [c8] = some y8 := by simpa [Value.cells, e6] using hf 8 _ rfl
    have hp : p = [y0, y1, y2, y3, y4, y5, y6, y7, y8].flatMap (·.2) := by injection hx
    obtain ⟨s0, hs0, _, ws0⟩ := DataW.trod_string Tryz.underlying9 t0
    obtain ⟨i1, hi1, _, wi1⟩ := DataW.trod_int Tryz.underlying3 t1
    obtain ⟨s2, hs2, _, ws2⟩ := DataW.trod_string Tryz.underlying9 t2
    obtain ⟨A3, k3, l3, rfl, _, hl3, _, hS3⟩ := ranges_cell t3 (fun x hx => hlt x (by rw [hp]; simp [hx]))
    obtain ⟨i4, hi4, _, wi4⟩ := DataW.trod_int Tryz.underlying3 t4
    obtain ⟨i5, hi5, _, wi5⟩ := DataW.trod_int Tryz.underlying3 t5
    obtain ⟨b6, hb6, _⟩ := DataW.trod_bool Tryz.underlying4 t6
    obtain ⟨i7, hi7, _, wi7⟩ := DataW.trod_int Tryz.underlying25 t7
    obtain ⟨A8, k8, l8, rfl, hl8, hS8⟩ := bytes_cell t8 (fun x hx => hlt x (by rw [hp]; simp [hx]))
    simp only [List.cons.injEq, and_true] at hs0 hi1 hs2 hi4 hi5 hb6 hi7
    subst hs0 hi1 hs2 hi4 hi5 hb6 hi7
    have b1 := bounds_i64 wi1
    have b4 := bounds_i64 wi4
    have b5 := bounds_i64 wi5
    have b7 := bounds_u8 wi7
    exact ⟨⟨s0.data.toList, i1, s2.data.toList, l3, i4, i5, b6, i7, l8⟩, A3, A8, k3, k8, rfl, ⟨by rw [← Lib.size_eq]; exact ws0, by rw [← Lib.size_eq]; exact ws2, hl3, hl8, b1, b4, b5, by omega⟩, hS3, hS8⟩
end Go.Proofs.YthfopimgdikpgaaGreatDoor
