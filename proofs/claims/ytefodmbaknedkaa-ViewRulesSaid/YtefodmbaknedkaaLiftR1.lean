/- An argument that is a response. -/
import Derived.Test.YtefodmbaknedkaaLiftB
import Derived.Test.YtefodmbaknedkaaVc
import Derived.Deep.SlicePairs
namespace Go.Proofs.Ytefodmbaknedkaa
open Go.ChangeShapes Go.WideShapes Go.ChangeAt Go.WideMaps Go.WideElems Go.RowKit

theorem wf_u8r {x : Int} (h : (Lit.int .u8 x).wf = true) : 0 ≤ x ∧ x ≤ 255 := by
  have := bounds_u8 h
  omega
theorem wf_u32r {x : Int} (h : (Lit.int .u32 x).wf = true) : 0 ≤ x ∧ x ≤ 4294967295 := by
  have := bounds_u32 h
  omega
set_option maxRecDepth 100000 in
theorem bytes_cell9 {H : Type} {enc : TypeId × Value → H} {W : World} {fuel : Nat} {v : Value} {y : DataW H × List MemPlace}
    (hf : DataW.trod enc Try.prog W 0 (fun _ => true) true fuel 45 [v] = some y) (hlt : ∀ x ∈ y.2, x.block < W.heap.size) :
    ∃ A c, ∃ l : List UInt8, v = .slice A l.length c ∧ l.length ≤ maxLen ∧ ByAt W.heap.size W A c l := by
  rcases open_ints Try.underlying45 Try.underlying5 (by kernel_rfl) hf with ⟨hcs, _⟩ | ⟨a, len, cap, zs, hcs, _, hlc, hcm, hzl, hx, hi, hwf⟩
  · simp at hcs
    exact ⟨none, 0, [], hcs, Nat.zero_le _, ByAt.nil _ _ _ _⟩
  · simp at hcs
    simp only [if_true] at hzl
    have each : ∀ i, i < len → ∃ n : UInt8, W.cell? (a.add i) = some (.int .u8 (n.toNat : Int)) := by
      intro i hil
      have hc := hi i (by omega)
      have hw := wf_u8r (hwf (zs.getD i 0) (by
        rw [List.getD_eq_getElem?_getD, List.getElem?_eq_getElem (by omega)]
        exact List.getElem_mem _))
      refine ⟨UInt8.ofNat (zs.getD i 0).toNat, ?_⟩
      rw [hc, UInt8.toNat_ofNat', Nat.mod_eq_of_lt (by omega)]
      congr 2
      omega
    obtain ⟨f, hf⟩ := Go.Deep.choose_lt each
    have hll : ((List.range len).map f).length = len := by rw [List.length_map, List.length_range]
    refine ⟨some a, _, (List.range len).map f, by rw [hll]; exact hcs, by rw [hll]; exact Nat.le_trans hlc hcm, ⟨by rw [hll]; exact hlc, ?_⟩⟩
    by_cases h0 : len = 0
    · exact .inl (by simp [h0])
    · obtain ⟨b, off, spot⟩ := a
      have hspot : spot = none := by simpa [Addr.add] using World.cell?_spot (hf 0 (by omega))
      subst hspot
      have hb : b < W.heap.size := hlt (.cell b off) (by
        rw [hx]
        exact MemPlace.mem_row.2 ⟨0, by omega, by simp⟩)
      refine .inr ⟨b, off, rfl, hb, hb, fun j hj => ?_⟩
      rw [hll] at hj
      have c0 := hf j hj
      rw [add_plain] at c0
      simpa using c0

set_option maxRecDepth 100000 in
/-- The ten cells of a response. -/
theorem resp_cells {H : Type} {enc : TypeId × Value → H} {W : World} {fuel : Nat} {cs : List Value} {x : DataW H × List MemPlace}
    (hf : DataW.trod enc Try.prog W 0 (fun _ => true) true fuel 47 cs = some x) (hlt : ∀ y ∈ x.2, y.block < W.heap.size) :
    ∃ x : RX, cs = encRx x ∧ RIok x.r ∧ x.r.body.length ≤ maxLen ∧ ByAt W.heap.size W x.A x.k x.r.body := by
  obtain ⟨xs, n, _, hx, hl, hlen, hf⟩ := DataW.trod_struct Try.underlying47 hf
  have h9 : cs.length = 10 := hl.trans (by kernel_rfl)
  obtain ⟨c0, c1, c2, c3, c4, c5, c6, c7, c8, c9, rfl⟩ : ∃ c0 c1 c2 c3 c4 c5 c6 c7 c8 c9, cs = [c0, c1, c2, c3, c4, c5, c6, c7, c8, c9] := by
    match cs, h9 with
    | [c0, c1, c2, c3, c4, c5, c6, c7, c8, c9], _ => exact ⟨c0, c1, c2, c3, c4, c5, c6, c7, c8, c9, rfl⟩
  have e1 : Try.prog.cellsOf 3 = 1 := by kernel_rfl
  have e2 : Try.prog.cellsOf 35 = 1 := by kernel_rfl
  have e3 : Try.prog.cellsOf 9 = 1 := by kernel_rfl
  have e4 : Try.prog.cellsOf 44 = 1 := by kernel_rfl
  have e5 : Try.prog.cellsOf 45 = 1 := by kernel_rfl
  match xs, hlen with
  | [y0, y1, y2, y3, y4, y5, y6, y7, y8, y9], _ =>
    have t0 : DataW.trod enc Try.prog W 0 (fun _ => true) true n 3 [c0] = some y0 := by simpa [e1] using hf 0 _ rfl
    have t1 : DataW.trod enc Try.prog W 0 (fun _ => true) true n 35 [c1] = some y1 := by simpa [e2] using hf 1 _ rfl
    have t2 : DataW.trod enc Try.prog W 0 (fun _ => true) true n 9 [c2] = some y2 := by simpa [e3] using hf 2 _ rfl
    have t3 : DataW.trod enc Try.prog W 0 (fun _ => true) true n 3 [c3] = some y3 := by simpa [e1] using hf 3 _ rfl
    have t4 : DataW.trod enc Try.prog W 0 (fun _ => true) true n 9 [c4] = some y4 := by simpa [e3] using hf 4 _ rfl
    have t5 : DataW.trod enc Try.prog W 0 (fun _ => true) true n 3 [c5] = some y5 := by simpa [e1] using hf 5 _ rfl
    have t6 : DataW.trod enc Try.prog W 0 (fun _ => true) true n 44 [c6] = some y6 := by simpa [e4] using hf 6 _ rfl
    have t7 : DataW.trod enc Try.prog W 0 (fun _ => true) true n 35 [c7] = some y7 := by simpa [e2] using hf 7 _ rfl
    have t8 : DataW.trod enc Try.prog W 0 (fun _ => true) true n 35 [c8] = some y8 := by simpa [e2] using hf 8 _ rfl
    have t9 : DataW.trod enc Try.prog W 0 (fun _ => true) true n 45 [c9] = some y9 := by simpa [e5] using hf 9 _ rfl
    have hp : x.2 = [y0, y1, y2, y3, y4, y5, y6, y7, y8, y9].flatMap (·.2) := by rw [hx]
    obtain ⟨i0, hi0, _, wi0⟩ := DataW.trod_int Try.underlying3 t0
    obtain ⟨i1, hi1, _, wi1⟩ := DataW.trod_int Try.underlying35 t1
    obtain ⟨s2, hs2, _, ws2⟩ := DataW.trod_string Try.underlying9 t2
    obtain ⟨i3, hi3, _, wi3⟩ := DataW.trod_int Try.underlying3 t3
    obtain ⟨s4, hs4, _, ws4⟩ := DataW.trod_string Try.underlying9 t4
    obtain ⟨i5, hi5, _, wi5⟩ := DataW.trod_int Try.underlying3 t5
    obtain ⟨i6, hi6, _, wi6⟩ := DataW.trod_int Try.underlying44 t6
    obtain ⟨i7, hi7, _, wi7⟩ := DataW.trod_int Try.underlying35 t7
    obtain ⟨i8, hi8, _, wi8⟩ := DataW.trod_int Try.underlying35 t8
    obtain ⟨A9, k9, l9, rfl, hl9, hS9⟩ := bytes_cell9 t9 (fun x hx => hlt x (by rw [hp]; simp [hx]))
    simp only [List.cons.injEq, and_true] at hi0 hi1 hs2 hi3 hs4 hi5 hi6 hi7 hi8
    subst hi0 hi1 hs2 hi3 hs4 hi5 hi6 hi7 hi8
    have b0 := bounds_i64 wi0
    have b1 := bounds_u32 wi1
    have b3 := bounds_i64 wi3
    have b5 := bounds_i64 wi5
    have b6 := bounds_u8 wi6
    have b7 := bounds_u32 wi7
    have b8 := bounds_u32 wi8
    have u1 : ((i1.toNat : Nat) : Int) = i1 := by omega
    have u6 : ((i6.toNat : Nat) : Int) = i6 := by omega
    have u7 : ((i7.toNat : Nat) : Int) = i7 := by omega
    have u8 : ((i8.toNat : Nat) : Int) = i8 := by omega
    refine ⟨⟨⟨i0, i1.toNat, s2.data.toList, i3, s4.data.toList, i5, i6.toNat, i7.toNat, i8.toNat, l9⟩, A9, k9⟩, ?_, ⟨b0, by show i1.toNat ≤ _; omega, b3, b5, by show i6.toNat ≤ _; omega, by show i7.toNat ≤ _; omega, by show i8.toNat ≤ _; omega⟩, hl9, hS9⟩
    unfold encRx
    simp only [u1, u6, u7, u8]

set_option maxRecDepth 100000 in
theorem open_resp {H : Type} {enc : TypeId × Value → H} {W : World} {base : Nat} {v : Value} {d : DataW H} {p : List MemPlace}
    (hv : Value.okWide Try.prog W .any base 47 v) (h : DataW.Trod enc Try.prog W 0 (fun _ => true) true 47 v d p) (hlt : ∀ x ∈ p, x.block < W.heap.size) :
    ∃ (r : RI) (A : Option Addr) (k : Nat), v = rsV r A k ∧ RIok r ∧ ByAt W.heap.size W A k r.body := by
  obtain ⟨cs, rfl, _⟩ := okWide_struct Try.underlying47 hv
  obtain ⟨fuel, hf⟩ := h
  obtain ⟨x, hcs, h1, _, h3⟩ := resp_cells hf hlt
  refine ⟨x.r, x.A, x.k, ?_, h1, h3⟩
  unfold rsV
  congr 1
  apply Array.toList_inj.1
  exact hcs

instance : Inhabited RX := ⟨⟨rsZero, none, 0⟩⟩
end Go.Proofs.Ytefodmbaknedkaa
