/- A buffer of bytes in a row of its own, anywhere in it; what append does to it; cuts of it. -/
import Derived.Test.YtldlghfjinpnkaaDoorAppStr
import Derived.Test.YtldlghfjinpnkaaDoorKeeps
import Derived.Deep.Upon
import Derived.Lib.SmallJoins
import Derived.Lib.SlFresh
namespace Go.Proofs.YtldlghfjinpnkaaDoor
open Go.RowKit

/-- The slice of address A and capacity c lies in the row of block g (or is nil) and reads as l. -/
structure BRow (g : Nat) (w : World) (A : Option Addr) (c : Nat) (l : List UInt8) : Prop where
  le : l.length ≤ c
  cap : c ≤ maxLen
  lies : (A = none ∧ c = 0) ∨ ∃ off cs, A = some ⟨g, off, none⟩ ∧ w.heap[g]? = some (.cells cs 5 (0, 0)) ∧ off + c ≤ cs.size ∧ ∀ j (h : j < l.length), w.cell? ⟨g, off + j, none⟩ = some (.int .u8 (l[j].toNat : Int))

section
variable {g : Nat} {w w' : World} {A : Option Addr} {c : Nat} {l : List UInt8}
theorem BRow.nil (g : Nat) (w : World) : BRow g w none 0 [] := ⟨Nat.le_refl _, Nat.zero_le _, .inl ⟨rfl, rfl⟩⟩
theorem BRow.kept (h : BRow g w A c l) (hk : g < w.heap.size → w'.heap[g]? = w.heap[g]?) : BRow g w' A c l := by
  refine ⟨h.le, h.cap, ?_⟩
  rcases h.lies with h0 | ⟨off, cs, hA, hh, hs, hc⟩
  · exact .inl h0
  · have e := hk (Array.getElem?_eq_some_iff.1 hh).1
    exact .inr ⟨off, cs, hA, e.trans hh, hs, fun j hj => (World.cell?_of_block (a := ⟨g, off + j, none⟩) e).trans (hc j hj)⟩
theorem BRow.below {B : Nat} (h : BRow g w A c l) (hb : Below B w w') (hg : g < B) : BRow g w' A c l := h.kept fun _ => hb.block g hg
theorem BRow.grow (h : BRow g w A c l) (hb : Below w.heap.size w w') : BRow g w' A c l := h.kept fun hg => hb.block g hg
theorem BRow.grown {row : Option Nat} (h : BRow g w A c l) (hb : w.grownBy w' row) (hne : some g ≠ row) : BRow g w' A c l := h.kept fun hg => hb.block g hg hne
theorem BRow.by (h : BRow g w A c l) : ByAt w.heap.size w A c l := by
  refine ⟨h.le, ?_⟩
  rcases h.lies with ⟨_, h0⟩ | ⟨off, cs, hA, hh, _, hc⟩
  · exact .inl (List.eq_nil_of_length_eq_zero (by have := h.le; omega))
  · have hg := (Array.getElem?_eq_some_iff.1 hh).1
    exact .inr ⟨g, off, hA, hg, hg, hc⟩
theorem BRow.some_of (h : BRow g w A c l) (hl : 0 < l.length) : ∃ off, A = some ⟨g, off, none⟩ := by
  rcases h.lies with ⟨_, h0⟩ | ⟨off, cs, hA, _⟩
  · have := h.le; omega
  · exact ⟨off, hA⟩
theorem BRow.drop (h : BRow g w A c l) {k : Nat} (hk : k ≤ l.length) : BRow g w (offA A c k) (c - k) (l.drop k) := by
  have hle := h.le
  have hcap := h.cap
  refine ⟨by rw [List.length_drop]; omega, by omega, ?_⟩
  rcases h.lies with ⟨rfl, rfl⟩ | ⟨off, cs, rfl, hh, hs, hc⟩
  · refine .inl ⟨?_, by omega⟩
    unfold offA
    split <;> rfl
  · refine .inr ⟨if c = k then off else off + k, cs, ?_, hh, ?_, fun j hj => ?_⟩
    · unfold offA
      split
      · rfl
      · simp [Addr.add]
    · split <;> omega
    · rw [List.length_drop] at hj
      rw [if_neg (by omega), Nat.add_assoc, hc (k + j) (by omega)]
      simp
theorem BRow.take (h : BRow g w A c l) {k : Nat} (hk : k ≤ l.length) : BRow g w A c (l.take k) := by
  refine ⟨by have := h.le; simp; omega, h.cap, ?_⟩
  rcases h.lies with h0 | ⟨off, cs, hA, hh, hs, hc⟩
  · exact .inl h0
  · refine .inr ⟨off, cs, hA, hh, hs, fun j hj => ?_⟩
    rw [List.length_take] at hj
    rw [hc j (by omega)]
    simp
/-- What the call has made itself by append. -/
theorem BRow.of_own {base n : Nat} {v : Value} (h : w.ownsRow base 5 1 v n (l.map fun x => Value.int .u8 (x.toNat : Int))) : ∃ g A c, v = .slice A n c ∧ BRow g w A c l ∧ n = l.length ∧ base ≤ g ∧ (g < w.heap.size ∨ A = none) := by
  have hn : n = l.length := by have := h.1; simp at this; omega
  subst hn
  rcases h.2 with ⟨rfl, h0⟩ | ⟨g, cap, cur, rfl, hb, hh, hnc, hcm, hsz, htk⟩
  · obtain rfl := List.eq_nil_of_length_eq_zero h0
    exact ⟨base, none, 0, rfl, BRow.nil _ _, rfl, Nat.le_refl _, .inr rfl⟩
  · refine ⟨g, _, cap, rfl, ⟨hnc, hcm, .inr ⟨0, cur, rfl, hh, by omega, fun j hj => ?_⟩⟩, rfl, hb, .inl (Array.getElem?_eq_some_iff.1 hh).1⟩
    have := h.cells (g := g) rfl j (.int .u8 (l[j].toNat : Int)) (by rw [List.getElem?_map, List.getElem?_eq_getElem hj]; rfl)
    rw [Addr.add_lit] at this
    exact this
end

theorem block_setCells {g : Nat} {t : TypeId} {fr : Nat × Nat} : ∀ (vs : List Value) (o : Nat) (w : World) (cs : Array Value), w.heap[g]? = some (.cells cs t fr) → ∃ cs', (w.setCells g o vs).heap[g]? = some (.cells cs' t fr) ∧ cs'.size = cs.size
  | [], _, _, cs, h => ⟨cs, h, rfl⟩
  | v :: r, o, w, cs, h => by
    obtain ⟨cs', h1, h2⟩ := block_setCells r (o + 1) _ _ (Joins.block_setCell (i := o) h v)
    exact ⟨cs', h1, by rw [h2]; simp⟩
theorem grown_setCells (g : Nat) : ∀ (vs : List Value) (o : Nat) (w x : World), w.grownBy x (some g) → w.grownBy (x.setCells g o vs) (some g)
  | [], _, _, _, h => h
  | v :: r, o, w, x, h => grown_setCells g r (o + 1) w _ (h.trans (grown_setCell x g o v))

set_option maxHeartbeats 1000000 in
/-- append onto a buffer: in place where there is room, else a new row. -/
theorem append_brow (w : World) (ty : TypeId) (g : Nat) (A : Option Addr) (c n : Nat) (l : List UInt8) (h : BRow g w A c l) (hn : l.length = n) (B : Nat) (A2 : Option Addr) (c2 m : Nat) (p : List UInt8) (hp : ByAt B w A2 c2 p) (hm : p.length = m) (h63 : n + m ≤ 1000000000) :
    ∃ A' c' w' g', (Builtin.append_ #[26, 26] ty #[.slice A n c, .slice A2 m c2]).run Tryd.prog w = .ok (.slice A' (n + m) c') w' ∧ (g' = g ∨ w.heap.size ≤ g') ∧ BRow g' w' A' c' (l ++ p) ∧ w.grownBy w' (some g) := by
  subst hn hm
  have k63 : l.length + p.length ≤ maxLen := by unfold maxLen; omega
  have kby : (l.length + p.length) * 1 ≤ 140737488355328 := by omega
  obtain ⟨i0, hi, hz0, hz1, hz2⟩ := info_parts infoByte
  have hle := h.le
  have hcap := h.cap
  have h1 : ∀ u ∈ (p.map fun x => Value.int .u8 (x.toNat : Int)), u.oneCell' = true := fun u hu => by
    obtain ⟨x, _, rfl⟩ := List.mem_map.1 hu
    rfl
  have hpl : (p.map fun x => Value.int .u8 (x.toNat : Int)).length = p.length * i0.size := by rw [hz1]; simp
  have hpl1 : (p.map fun x => Value.int .u8 (x.toNat : Int)).length = p.length * 1 := by simp
  rcases A2 with _ | ad
  · have hp0 : p = [] := by
      rcases hp.lies with h0 | ⟨_, _, he, _⟩
      · exact h0
      · cases he
    subst hp0
    refine ⟨A, c, w, g, ?_, .inl rfl, by simpa using h, World.grownBy.refl _ _⟩
    simp [Builtin.append_, run_underlying Tryd.underlying26, sizeOf, typeInfo, hi, Builtin.lenOf, Builtin.firstCells, hle, storeCells]
    cases A <;> rfl
  have hnews : ∀ j u, (p.map fun x => Value.int .u8 (x.toNat : Int))[j]? = some u → w.cell? (ad.add j) = some u := fun j u hj => by
    rw [List.getElem?_map] at hj
    obtain ⟨x, hx, rfl⟩ := Option.map_eq_some_iff.1 hj
    obtain ⟨hlt, rfl⟩ := List.getElem?_eq_some_iff.1 hx
    obtain ⟨b, off, he, _, _, hc⟩ := hp.cell hlt
    obtain rfl := Option.some.inj he
    rw [Addr.add_lit]
    exact hc
  rcases h.lies with ⟨rfl, rfl⟩ | ⟨off, cs, rfl, hh, hs, hc⟩
  · obtain rfl : l = [] := List.eq_nil_of_length_eq_zero (by omega)
    have j63 : 0 + p.length ≤ maxLen := by unfold maxLen; simp only [List.length_nil] at h63; omega
    have jby : (0 + p.length) * 1 ≤ 140737488355328 := by simp only [List.length_nil] at h63; omega
    clear k63 kby
    obtain ⟨v', w', hrun, r1, r2⟩ := run_append_own (P := Tryd.prog) w w.heap.size 26 ty 5 i0 (.int .u8 0) 1 1 Tryd.underlying26 hi hz0 hz1 hz2 rfl (by decide) (.slice none 0 0) 0 [] (World.ownsRow_nil w _ _ _) ad p.length c2 _ hpl1 hnews h1 j63 jby (Nat.le_refl _)
    rw [Nat.zero_add] at r1
    obtain ⟨g', A', c', rfl, b1, _, b2, _⟩ := BRow.of_own (l := p) (by simpa using r1)
    refine ⟨A', c', w', g', by simpa using hrun, .inr b2, by simpa using b1, (r2.1).but _⟩
  · have holds : ∀ j u, (l.map fun x => Value.int .u8 (x.toNat : Int))[j]? = some u → w.cell? ((⟨g, off, none⟩ : Addr).add j) = some u := fun j u hj => by
      rw [List.getElem?_map] at hj
      obtain ⟨x, hx, rfl⟩ := Option.map_eq_some_iff.1 hj
      obtain ⟨hlt, rfl⟩ := List.getElem?_eq_some_iff.1 hx
      rw [Addr.add_lit]
      exact hc j hlt
    by_cases hroom : l.length + p.length ≤ c
    · have hcell : ∀ j, l.length + j < c → (w.cell? ⟨g, off + l.length * i0.size + j, none⟩).isSome = true := fun j hj => by
        rw [hz1, Nat.mul_one, cell_of_row w g _ _ _ _ hh, Array.getElem?_eq_getElem (by omega)]
        rfl
      have hr := run_append_room_cells (P := Tryd.prog) w 26 ty 5 i0 Tryd.underlying26 hi g off l.length c ad p.length c2 _ hpl hnews h1 hroom
        (fun j hj => hcell j (by rw [List.length_map] at hj; omega))
        (fun j hj => Joins.unfrozen_of_block hh _)
      obtain ⟨cs', q1, q2⟩ := block_setCells (p.map fun x => Value.int .u8 (x.toNat : Int)) (off + l.length * i0.size) w cs hh
      refine ⟨_, c, _, g, hr, .inl rfl, ⟨by rw [List.length_append]; omega, hcap, .inr ⟨off, cs', rfl, q1, by omega, fun j hj => ?_⟩⟩, grown_setCells g _ _ w w (World.grownBy.refl _ _)⟩
      rw [List.length_append] at hj
      by_cases hlt : j < l.length
      · rw [World.cell?_setCells_out g _ _ w _ (fun _ _ => Or.inl (by rw [hz1]; show off + j < off + l.length * 1; omega)), List.getElem_append_left hlt]
        exact hc j hlt
      · have e : off + j = off + l.length * i0.size + (j - l.length) := by rw [hz1]; omega
        rw [e, World.cell?_setCells_in g _ _ w (fun i hi => hcell i (by rw [List.length_map] at hi; omega)) (j - l.length) (by rw [List.length_map]; omega), List.getElem_append_right (by omega)]
        simp
    · obtain ⟨v', w', hrun, r1, r2⟩ := run_append_arg_grows (P := Tryd.prog) w 26 ty 5 i0 (.int .u8 0) 1 1 Tryd.underlying26 hi hz0 hz1 hz2 rfl (by decide) ⟨g, off, none⟩ l.length c _ (by simp) holds ad p.length c2 _ hpl1 hnews (by omega) k63 kby
      rw [← List.map_append] at r1
      obtain ⟨g', A', c', rfl, b1, _, b2, _⟩ := BRow.of_own r1
      exact ⟨A', c', w', g', hrun, .inr b2, b1, r2.but _⟩
end Go.Proofs.YtldlghfjinpnkaaDoor
