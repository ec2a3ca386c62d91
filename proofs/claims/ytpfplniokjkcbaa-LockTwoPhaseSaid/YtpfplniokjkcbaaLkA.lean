/- The reference of layer 14: Acquire, Release: a table in a block of its own, its row of owners written. -/
import Derived.Test.YtpfplniokjkcbaaLkB
import Derived.Test.YtpfplniokjkcbaaKeptO
namespace Go.Proofs.Ytpfplniokjkcbaa
open Go.RowKit

theorem flatI_set (L : List Int) (k : Nat) (x : Int) : (flatL encI L).set k (.int .i64 x) = flatL encI (L.set k x) := by
  have e : ∀ l : List Int, flatL encI l = l.map (Value.int .i64) := by
    intro l
    induction l with
    | nil => rfl
    | cons y l ih =>
      rw [List.map_cons, ← ih]
      rfl
  rw [e, e, List.map_set]
/-- The block of a slice's array. -/
def blkA (A : Option Addr) (k : Nat) : Prop := ∃ a, A = some a ∧ k = a.block
/-- The reference's table in block bw, its row the slice A: owners L, q acquisitions. -/
structure RefT (B bw : Nat) (A : Option Addr) (c : Nat) (L : List Int) (q : Nat) (W : World) : Prop where
  tb : W.heap[bw]? = some (.cells #[.slice A L.length c, .int .i64 (q : Int)] 28)
  row : W.ownsRow B 3 1 (.slice A L.length c) L.length (flatL encI L)
section
variable {B bw : Nat} {A : Option Addr} {c q : Nat} {L : List Int} {W W' : World}
theorem RefT.lt (h : RefT B bw A c L q W) : bw < W.heap.size := (Array.getElem?_eq_some_iff.1 h.tb).1
theorem RefT.cells (h : RefT B bw A c L q W) : W.cell? ⟨bw, 0, none⟩ = some (.slice A L.length c) ∧ W.cell? ⟨bw, 1, none⟩ = some (.int .i64 (q : Int)) := ⟨cell_of_row _ _ 0 _ _ _ h.tb, cell_of_row _ _ 1 _ _ _ h.tb⟩
theorem RefT.fz (h : RefT B bw A c L q W) (o : Nat) : W.frozen? ⟨bw, o, none⟩ = false := Joins.unfrozen_of_block h.tb o
theorem RefT.sl (h : RefT B bw A c L q W) : SlAt encI 1 W A L := SlAt.of_own encI_len h.row
theorem RefT.below (h : RefT B bw A c L q W) (hb : Below W.heap.size W W') : RefT B bw A c L q W' := ⟨(hb.block bw h.lt).trans h.tb, own_below h.row hb⟩
theorem RefT.keptO {S : Nat → Prop} (h : RefT B bw A c L q W) (hk : KeptO S W W') (h1 : ¬ S bw) (h2 : Out S A) : RefT B bw A c L q W' := by
  refine ⟨hk.heap h.tb h1, h.row.1, ?_⟩
  rcases h.row.2 with h3 | ⟨g, cap, cur, h3, hb, h4, h5⟩
  · exact .inl h3
  · refine .inr ⟨g, cap, cur, h3, hb, hk.heap h4 ?_, h5⟩
    injection h3 with h3
    exact h2 _ h3
/-- Where a lock's owner lies. -/
theorem RefT.at_ (h : RefT B bw A c L q W) {j : Nat} (hj : j < L.length) : ∃ g, A = some ⟨g, 0, none⟩ ∧ g ≠ bw ∧ W.cell? ⟨g, j, none⟩ = some (.int .i64 L[j]) ∧ W.frozen? ⟨g, j, none⟩ = false := by
  rcases h.row.2 with ⟨h1, h2⟩ | ⟨g, cap, cur, h1, hb, h3, _⟩
  · omega
  · have hrow := h.row
    have htb := h.tb
    rw [h1] at hrow
    injection h1 with h1
    refine ⟨g, h1, fun e => ?_, ?_, hrow.frozenAt j⟩
    · subst e
      rw [htb] at h3
      injection h3 with h3
      injection h3 with _ h4
      exact absurd h4 (by decide)
    · rw [hrow.cellAt j (by omega)]
      have := flatL_at encI_len L j L[j] (List.getElem?_eq_getElem hj) 0 _ rfl
      rw [show j * 1 + 0 = j by omega] at this
      exact this
/-- An owner written. -/
theorem RefT.set {g j : Nat} (h : RefT B bw (some ⟨g, 0, none⟩) c L q W) (hj : j < L.length) (x : Int) : RefT B bw (some ⟨g, 0, none⟩) c (L.set j x) q (W.setCell ⟨g, j, none⟩ (.int .i64 x)) := by
  obtain ⟨g', e, hne, -, -⟩ := h.at_ hj
  injection e with e
  injection e with e
  subst e
  have hr := (h.row.stored j (.int .i64 x)).1
  rw [flatI_set] at hr
  have hl : (L.set j x).length = L.length := List.length_set
  exact ⟨by rw [hl]; exact ((grown_setCell W g j _).block bw h.lt (by simpa using fun e => hne e.symm)).trans h.tb, by rw [hl]; exact hr⟩
/-- The count written. -/
theorem RefT.cnt (h : RefT B bw A c L q W) (hA : ∀ a, A = some a → a.block ≠ bw) (m : Nat) : RefT B bw A c L m (W.setCell ⟨bw, 1, none⟩ (.int .i64 (m : Int))) := by
  refine ⟨?_, ?_⟩
  · have := Joins.block_setCell (i := 1) h.tb (.int .i64 (m : Int))
    simp at this
    exact this
  · refine h.row.kept (grown_setCell W bw 1 _) ?_
    cases hA2 : A with
    | none => exact .inl rfl
    | some a => exact .inr fun e => hA a hA2 (Option.some.inj e)
theorem RefT.apart (h : RefT B bw A c L q W) : ∀ a, A = some a → a.block ≠ bw := by
  intro a ha e
  rcases h.row.2 with ⟨h1, h2⟩ | ⟨g, cap, cur, h1, hb, h3, _⟩
  · injection h1 with h1
    rw [h1] at ha
    cases ha
  · injection h1 with h1
    rw [h1] at ha
    injection ha with ha
    subst ha
    have e2 : g = bw := e
    subst e2
    rw [h.tb] at h3
    injection h3 with h3
    injection h3 with _ h4
    exact absurd h4 (by decide)
end
end Go.Proofs.Ytpfplniokjkcbaa
