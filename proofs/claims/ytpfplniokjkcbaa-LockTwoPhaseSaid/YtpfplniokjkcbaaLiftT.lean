/- Arguments of LockTwoPhase: a slice of slices of bytes; a slice of bytes. -/
import Derived.Test.YtpfplniokjkcbaaLiftB
import Derived.Test.YtpfplniokjkcbaaBy
import Derived.Test.YtpfplniokjkcbaaPt14
import Derived.Deep.Matrix
import Derived.Deep.SlicePairs
namespace Go.Proofs.Ytpfplniokjkcbaa
open Go.ChangeShapes Go.WideShapes Go.ChangeAt Go.WideMaps Go.WideElems Go.RowKit

theorem wf_u8L {x : Int} (h : (Lit.int .u8 x).wf = true) : 0 ≤ x ∧ x ≤ 255 := by
  have := bounds_u8 h
  omega

set_option maxRecDepth 100000 in
theorem open_bytes14L {H : Type} {enc : TypeId × Value → H} {W : World} {base : Nat} {v : Value} {d : DataW H} {p : List MemPlace}
    (hv : Value.okWide Try.prog W .any base 52 v) (h : DataW.Trod enc Try.prog W 0 (fun _ => true) true 52 v d p) (hlt : ∀ x ∈ p, x.block < W.heap.size) :
    ∃ A c, ∃ l : List UInt8, v = .slice A l.length c ∧ l.length ≤ maxLen ∧ ByAt W.heap.size W A c l := by
  obtain ⟨a0, len, cap, rfl⟩ := okWide_slice Try.underlying52 hv
  obtain ⟨fuel, hf⟩ := h
  rcases open_ints Try.underlying52 Try.underlying5 (by kernel_rfl) hf with ⟨hcs, _⟩ | ⟨a, len', cap', zs, hcs, _, hlc, hcm, hzl, hx, hi, hwf⟩
  · simp [Value.cells] at hcs
    obtain ⟨rfl, rfl, rfl⟩ := hcs
    exact ⟨none, 0, [], rfl, Nat.zero_le _, ByAt.nil _ _ _ _⟩
  · simp [Value.cells] at hcs
    obtain ⟨rfl, rfl, rfl⟩ := hcs
    simp only [if_true] at hzl
    have each : ∀ i, i < len → ∃ n : UInt8, W.cell? (a.add i) = some (.int .u8 (n.toNat : Int)) := by
      intro i hil
      have hc := hi i (by omega)
      have hw := wf_u8L (hwf (zs.getD i 0) (by
        rw [List.getD_eq_getElem?_getD, List.getElem?_eq_getElem (by omega)]
        exact List.getElem_mem _))
      refine ⟨UInt8.ofNat (zs.getD i 0).toNat, ?_⟩
      rw [hc, UInt8.toNat_ofNat', Nat.mod_eq_of_lt (by omega)]
      congr 2
      omega
    obtain ⟨f, hf⟩ := Go.Deep.choose_lt each
    have hll : ((List.range len).map f).length = len := by rw [List.length_map, List.length_range]
    refine ⟨some a, _, (List.range len).map f, by rw [hll], by rw [hll]; exact Nat.le_trans hlc hcm, ⟨by rw [hll]; exact hlc, ?_⟩⟩
    by_cases h0 : len = 0
    · exact .inl (by simp [h0])
    · obtain ⟨b, off, spot⟩ := a
      have hspot : spot = none := by simpa [Addr.add] using World.cell?_spot (hf 0 (by omega))
      subst hspot
      have hb : b < W.heap.size := hlt (.cell b off) (by
        simp only [Prod.mk.injEq] at hx
        rw [hx.2]
        exact MemPlace.mem_row.2 ⟨0, by omega, by simp⟩)
      refine .inr ⟨b, off, rfl, hb, hb, fun j hj => ?_⟩
      rw [hll] at hj
      have c0 := hf j hj
      rw [add_plain] at c0
      simpa using c0
set_option maxRecDepth 100000 in
theorem open_parts14L {H : Type} {enc : TypeId × Value → H} {W : World} {base : Nat} {v : Value} {d : DataW H} {p : List MemPlace}
    (hv : Value.okWide Try.prog W .any base 51 v) (h : DataW.Trod enc Try.prog W 0 (fun _ => true) true 51 v d p) (hlt : ∀ x ∈ p, x.block < W.heap.size) :
    ∃ A c, ∃ ls : List (List UInt8), v = .slice A ls.length c ∧ ls.length ≤ maxLen ∧ PtK W A ls := by
  obtain ⟨a0, len, cap, rfl⟩ := okWide_slice Try.underlying51 hv
  obtain ⟨fuel, hf⟩ := h
  rcases Go.Deep.open_int_rows Try.underlying51 Try.underlying52 Try.underlying5 (by kernel_rfl) (by kernel_rfl) hf with ⟨hcs, _⟩ | ⟨a, len', cap', A, L, C, Z, hcs, _, hlc, hcm, hx, hr⟩
  · simp [Value.cells] at hcs
    obtain ⟨rfl, rfl, rfl⟩ := hcs
    exact ⟨none, 0, [], rfl, Nat.zero_le _, .inl rfl⟩
  · simp [Value.cells] at hcs
    obtain ⟨rfl, rfl, rfl⟩ := hcs
    simp only [Prod.mk.injEq] at hx
    have each : ∀ r, r < len → ∃ l : List UInt8, l.length ≤ maxLen ∧ W.cell? (a.add r) = some (.slice (A r) l.length (C r)) ∧ ByAt W.heap.size W (A r) (C r) l := by
      intro r hrl
      obtain ⟨h1, h2, h3, h4, h5, h6, h7⟩ := hr r (by omega)
      have each2 : ∀ i, i < L r → ∃ n : UInt8, (Z r).getD i 0 = (n.toNat : Int) := by
        intro i hil
        have hw := wf_u8L (h5 ((Z r).getD i 0) (by
          rw [List.getD_eq_getElem?_getD, List.getElem?_eq_getElem (by omega)]
          exact List.getElem_mem _))
        refine ⟨UInt8.ofNat ((Z r).getD i 0).toNat, ?_⟩
        rw [UInt8.toNat_ofNat', Nat.mod_eq_of_lt (by omega)]
        omega
      obtain ⟨f, hf⟩ := Go.Deep.choose_lt each2
      have hll : ((List.range (L r)).map f).length = L r := by rw [List.length_map, List.length_range]
      refine ⟨(List.range (L r)).map f, by rw [hll]; omega, by rw [hll]; exact h1, ⟨by rw [hll]; exact h2, ?_⟩⟩
      by_cases h0 : L r = 0
      · exact .inl (by simp [h0])
      · cases hA : A r with
        | none => have := h6 hA; omega
        | some a' =>
          have hc := (h7 a' hA).2
          obtain ⟨b, off, spot⟩ := a'
          have hspot : spot = none := by simpa [Addr.add] using World.cell?_spot (hc 0 (by omega))
          subst hspot
          have hb : b < W.heap.size := hlt (.cell b off) (by
            rw [hx.2]
            refine List.mem_append_right _ (List.mem_flatMap.2 ⟨r, List.mem_range.2 (by omega), ?_⟩)
            rw [hA]
            exact MemPlace.mem_row.2 ⟨0, by omega, by simp⟩)
          refine .inr ⟨b, off, rfl, hb, hb, fun j hj => ?_⟩
          rw [hll] at hj
          have c0 := hc j (by omega)
          rw [add_plain, hf j hj] at c0
          simpa using c0
    obtain ⟨f, hf⟩ := Go.Deep.choose_lt each
    have hll : ((List.range len).map f).length = len := by rw [List.length_map, List.length_range]
    refine ⟨some a, _, (List.range len).map f, by rw [hll], by rw [hll]; exact Nat.le_trans hlc hcm, ?_⟩
    by_cases h0 : len = 0
    · exact .inl (by simp [h0])
    · obtain ⟨b, off, spot⟩ := a
      have hspot : spot = none := by simpa [Addr.add] using World.cell?_spot (hf 0 (by omega)).2.1
      subst hspot
      have hb : b < W.heap.size := hlt (.cell b off) (by
        rw [hx.2]
        exact List.mem_append_left _ (MemPlace.mem_row.2 ⟨0, by omega, by simp⟩))
      refine .inr ⟨b, off, rfl, hb, fun j hj => ?_⟩
      rw [hll] at hj
      obtain ⟨g1, g2, g3⟩ := hf j hj
      rw [add_plain] at g2
      have e : ((List.range len).map f)[j]'(by rw [hll]; exact hj) = f j := by simp
      rw [e]
      exact ⟨g1, _, _, g2, g3⟩
end Go.Proofs.Ytpfplniokjkcbaa
