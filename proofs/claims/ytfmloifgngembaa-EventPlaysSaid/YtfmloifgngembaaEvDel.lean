/- slices.DeleteFunc, ContainsFunc of events over a closure that reads; slices.Clone. -/
import Derived.Test.YtfmloifgngembaaEvSl
import Derived.Test.YtfmloifgngembaaKeptO
import Derived.Lib.SmallJoins
import Derived.WalkSmall
import Derived.Laws.IdiomCopy
import Derived.Deep.Upon
import Derived.Laws.EntriesVeiled
namespace Go.Proofs.Ytfmloifgngembaa
open Go.RowKit

/-- An event stored whole. -/
def stE (W : World) (b o : Nat) (x : EvI) : World := ((W.setCell ⟨b, o, none⟩ (.int .i64 x.k)).setCell ⟨b, o + 1, none⟩ (.int .u32 (x.u : Int))).setCell ⟨b, o + 2, none⟩ (.int .u8 (x.f : Int))
/-- A row of events in block b. -/
structure RE (b : Nat) (d : List EvI) (W : World) : Prop where
  lt : b < W.heap.size
  sl : ∀ j x, d[j]? = some x → ∀ i v, (encEv x)[i]? = some v → W.cell? ⟨b, j * 3 + i, none⟩ = some v
  fz : ∀ o, W.frozen? ⟨b, o, none⟩ = false
section
variable {b : Nat} {d : List EvI} {W W' : World}
theorem RE.at_ (h : RE b d W) {j : Nat} (hj : j < d.length) : W.cell? ⟨b, j * 3, none⟩ = some (.int .i64 d[j].k) ∧ W.cell? ⟨b, j * 3 + 1, none⟩ = some (.int .u32 (d[j].u : Int)) ∧ W.cell? ⟨b, j * 3 + 2, none⟩ = some (.int .u8 (d[j].f : Int)) :=
  ⟨h.sl j _ (List.getElem?_eq_getElem hj) 0 _ rfl, h.sl j _ (List.getElem?_eq_getElem hj) 1 _ rfl, h.sl j _ (List.getElem?_eq_getElem hj) 2 _ rfl⟩
theorem RE.same (h : RE b d W) (hs : W.heap.size ≤ W'.heap.size) (hb : W'.heap[b]? = W.heap[b]?) : RE b d W' :=
  ⟨Nat.lt_of_lt_of_le h.lt hs, fun j x hj i v hi => (World.cell?_of_block (a := ⟨b, j * 3 + i, none⟩) hb).trans (h.sl j x hj i v hi), fun o => (World.frozen?_of_block (a := ⟨b, o, none⟩) hb).trans (h.fz o)⟩
theorem RE.below (h : RE b d W) (hb : Below W.heap.size W W') : RE b d W' := h.same hb.size (hb.block _ h.lt)
theorem RE.slAt (h : RE b d W) : SlAt encEv 3 W (some ⟨b, 0, none⟩) d := .inr ⟨b, 0, rfl, h.lt, fun j x hj i v hi => by rw [Nat.zero_add]; exact h.sl j x hj i v hi⟩
theorem RE.take (h : RE b d W) (n : Nat) : RE b (d.take n) W := ⟨h.lt, fun j x hj => h.sl j x (by
  rw [List.getElem?_take] at hj
  split at hj
  · exact hj
  · cases hj), h.fz⟩
theorem RE.of_own {base n m c : Nat} {A : Option Addr} (h : W.ownsRow base 39 3 (.slice A m c) n (flatL encEv d)) (hn : d.length = n) (h0 : d ≠ []) : ∃ b, A = some ⟨b, 0, none⟩ ∧ base ≤ b ∧ m = n ∧ n ≤ c ∧ RE b d W := by
  subst hn
  have hc := h
  rcases h.2 with ⟨_, h2⟩ | ⟨g, cap, cur, h1, h2, h3, h4⟩
  · exact absurd (List.eq_nil_of_length_eq_zero h2) h0
  · injection h1 with e1 e2 e3
    subst e1; subst e2; subst e3
    refine ⟨g, rfl, h2, rfl, own_cap hc, (Array.getElem?_eq_some_iff.1 h3).1, fun j x hj i v hi => ?_, fun o => Joins.unfrozen_of_block h3 o⟩
    rcases SlAt.of_own encEv_len hc with e | ⟨b, off, hA, _, hx⟩
    · exact absurd e h0
    · injection hA with hA
      injection hA with e1 e2
      subst e1; subst e2
      have := hx j x hj i v hi
      rwa [Nat.zero_add] at this
theorem stE_kept (W : World) (b o : Nat) (x : EvI) : KeptO (fun k => k = b) W (stE W b o x) := KeptO.of_grown (grown_set (grown_set (grown_setCell W b o _) (o + 1) _) (o + 2) _) (fun r hr => by cases hr; rfl)
/-- An event stored in the row. -/
theorem RE.set (h : RE b d W) {j : Nat} (hj : j < d.length) (x : EvI) : RE b (d.set j x) (stE W b (j * 3) x) := by
  obtain ⟨c0, c1, c2⟩ := h.at_ hj
  refine ⟨by unfold stE; simpa using h.lt, fun j' y hj' i v hi => ?_, fun o => by unfold stE; simpa using h.fz o⟩
  have hi3 : i < 3 := by have := (List.getElem?_eq_some_iff.1 hi).1; simpa [encEv] using this
  unfold stE
  by_cases e : j = j'
  · subst e
    rw [List.getElem?_set_self hj] at hj'
    obtain rfl := Option.some.inj hj'
    match i, hi, hi3 with
    | 0, hi, _ =>
      obtain rfl := Option.some.inj hi
      rw [World.cell?_setCell_other _ _ _ _ (by simp), World.cell?_setCell_other _ _ _ _ (by simp)]
      exact World.cell?_setCell_same _ _ _ c0
    | 1, hi, _ =>
      obtain rfl := Option.some.inj hi
      rw [World.cell?_setCell_other _ _ _ _ (by simp)]
      exact World.cell?_setCell_same _ _ _ ((World.cell?_setCell_other _ ⟨b, j * 3, none⟩ ⟨b, j * 3 + 1, none⟩ _ (by simp)).trans c1)
    | 2, hi, _ =>
      obtain rfl := Option.some.inj hi
      exact World.cell?_setCell_same _ _ _ ((World.cell?_setCell_other _ ⟨b, j * 3 + 1, none⟩ ⟨b, j * 3 + 2, none⟩ _ (by simp)).trans ((World.cell?_setCell_other _ ⟨b, j * 3, none⟩ ⟨b, j * 3 + 2, none⟩ _ (by simp)).trans c2))
  · rw [List.getElem?_set_ne e] at hj'
    refine (World.cell?_setCell_other _ ⟨b, j * 3 + 2, none⟩ ⟨b, j' * 3 + i, none⟩ _ ?_).trans ((World.cell?_setCell_other _ ⟨b, j * 3 + 1, none⟩ ⟨b, j' * 3 + i, none⟩ _ ?_).trans ((World.cell?_setCell_other _ ⟨b, j * 3, none⟩ ⟨b, j' * 3 + i, none⟩ _ ?_).trans (h.sl j' y hj' i v hi)))
    · intro e'; simp only [Addr.mk.injEq] at e'; omega
    · intro e'; simp only [Addr.mk.injEq] at e'; omega
    · intro e'; simp only [Addr.mk.injEq] at e'; omega
end

/-- 's[i:]' and 's[:i]' of events. -/
theorem undV15 : Try.prog.underlying 28 = some (.slice (Try.prog.elem 28)) := by kernel_rfl
theorem sizeV15 (w : World) : (sizeOf (Try.prog.elem 28)).run Try.prog w = .ok 3 w := by kernel_rfl
theorem sliceEv_h (b n c i : Nat) (h : i ≤ c) (W : World) : (Instr.slice 28 (.slice (some ⟨b, 0, none⟩) n c) none (some (.int .i64 i)) none).run Try.prog W = .ok (.slice (some ⟨b, 0, none⟩) i c) W := by
  rw [run_slice_h W _ _ n c undV15 .i64 i (by omega) (by omega), sizeV15]
  by_cases h0 : c = 0 <;> simp [Result.andThen, sliced, Addr.add, h0]
theorem sliceEv_l (b n c i : Nat) (h : i < n) (hc : n ≤ c) (W : World) : (Instr.slice 28 (.slice (some ⟨b, 0, none⟩) n c) (some (.int .i64 i)) none none).run Try.prog W = .ok (.slice (some ⟨b, i * 3, none⟩) (n - i) (c - i)) W := by
  rw [run_slice_l W _ _ n c undV15 .i64 i (by omega) (by omega), sizeV15]
  have h1 : ¬ c = i := by omega
  have h3 : i ≠ 0 → ¬ i * 3 = 0 := by omega
  by_cases h2 : i = 0
  · simp [Result.andThen, sliced, Addr.add, h2]
  · simp [Result.andThen, sliced, Addr.add, h1, h3 h2]
theorem sliceAtEv (x : Value) (lo hi mx : Option Value) (W : World) : (Instr.sliceAt 28 x lo hi mx).run Try.prog W = (Instr.slice 28 x lo hi mx).run Try.prog W := run_sliceAt_slice W _ _ _ _ _ undV15
theorem zeroEv (w : World) : (zeroValue 39).run Try.prog w = .ok (.agg #[.int .i64 0, .int .u32 0, .int .u8 0]) w := by kernel_rfl
theorem keptO_setCells (b : Nat) : ∀ (vs : List Value) (o : Nat) (w : World), KeptO (fun k => k = b) w (w.setCells b o vs)
  | [], _, w => KeptO.refl _ w
  | v :: r, o, w => (KeptO.of_grown (S := fun k => k = b) (grown_setCell w b o v) (fun q e => by cases e; rfl)).trans (keptO_setCells b r (o + 1) _) fun _ e => .inl e
/-- 'clear(s[i:])'. -/
theorem RE.clear {b : Nat} {d : List EvI} {W : World} (h : RE b d W) (i c : Nat) (hi : i < d.length) (ty : TypeId) :
    ∃ W', (Builtin.clear_ #[28] ty #[.slice (some ⟨b, i * 3, none⟩) (d.length - i) c]).run Try.prog W = .ok (.tuple #[]) W' ∧ RE b (d.take i) W' ∧ KeptO (fun k => k = b) W W' := by
  obtain ⟨m, hm⟩ : ∃ m, d.length - i = m + 1 := ⟨d.length - i - 1, by omega⟩
  rw [hm]
  generalize hz : (Builtin.zeroCells (Value.agg #[.int .i64 0, .int .u32 0, .int .u8 0]).cells (m + 1)).toList = zs
  have hzl : zs.length = (m + 1) * 3 := by rw [← hz]; simp [Builtin.zeroCells, Value.cells]
  have hz1 : ∀ v ∈ zs, v.oneCell' = true := by
    intro v hv
    rw [← hz] at hv
    simp only [Builtin.zeroCells, Value.cells, Array.toList_map, List.mem_map] at hv
    obtain ⟨q, _, rfl⟩ := hv
    have : q % 3 < 3 := Nat.mod_lt _ (by decide)
    show (#[Value.int .i64 0, .int .u32 0, .int .u8 0][q % 3]!).oneCell' = true
    match hq : q % 3, this with
    | 0, _ => rfl
    | 1, _ => rfl
    | 2, _ => rfl
  have hin : ∀ j, j < zs.length → (W.cell? ⟨b, i * 3 + 0 + j, none⟩).isSome = true := by
    intro j hj
    have hq : i + j / 3 < d.length := by omega
    have hr : j % 3 < 3 := Nat.mod_lt _ (by decide)
    obtain ⟨c0, c1, c2⟩ := h.at_ hq
    have e : i * 3 + 0 + j = (i + j / 3) * 3 + j % 3 := by omega
    rw [e]
    match hq : j % 3, hr with
    | 0, _ => rw [Nat.add_zero, c0]; rfl
    | 1, _ => rw [c1]; rfl
    | 2, _ => rw [c2]; rfl
  have hst := run_storeCells_cells (P := Try.prog) b (i * 3) zs 0 W hin (fun j _ => h.fz _) hz1
  have K := keptO_setCells b zs (i * 3 + 0) W
  refine ⟨W.setCells b (i * 3 + 0) zs, ?_, ⟨?_, fun j x hj q v hq => ?_, fun o => ?_⟩, ?_⟩
  · simp [Builtin.clear_, run_underlying Try.underlying28, hz, hst]
  · exact Nat.lt_of_lt_of_le h.lt K.size
  · rw [List.getElem?_take] at hj
    split at hj
    · next hji =>
      have hq3 : q < 3 := by have := (List.getElem?_eq_some_iff.1 hq).1; simpa [encEv] using this
      rw [World.cell?_setCells_out b zs _ W ⟨b, j * 3 + q, none⟩ (fun _ _ => .inl (by show j * 3 + q < i * 3 + 0; omega))]
      exact h.sl j x hj q v hq
    · cases hj
  · rw [World.frozen?_setCells]
    exact h.fz o
  · exact K
end Go.Proofs.Ytfmloifgngembaa
