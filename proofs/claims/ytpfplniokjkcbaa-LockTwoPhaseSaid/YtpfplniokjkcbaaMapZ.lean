/- A map keyed by ints, whatever its elements: what it holds at each key, how many it holds. -/
import Derived.Test.YtpfplniokjkcbaaSl
import Derived.Maps.OwnSet
import Derived.WalkKit
import Derived.OpenShut
namespace Go.Proofs.Ytpfplniokjkcbaa
open Go.RowKit Go.Maps Go.ChangeMaps

/-- A number that is an int. -/
def I64 (x : Int) : Prop := -9223372036854775808 ≤ x ∧ x ≤ 9223372036854775807
theorem lawI : Keyed Try.prog 3 := int_keyed Try.underlying3
theorem wfI {u : Int} (h : I64 u) : (Lit.int .i64 u).wf = true := by
  obtain ⟨h1, h2⟩ := h
  simp [Lit.wf, IntKind.min, IntKind.max, IntKind.bits, IntKind.signed]
  omega
theorem keyI {u : Int} (h : I64 u) : keyOf Try.prog 3 (.int .i64 u) = some (.int .i64 u) := keyOf_int_mk Try.underlying3 (wfI h)
/-- Each element reads as itself. -/
def heldI : Value → Option (DataW Value × List MemPlace) := fun v => some (.held v, [])
/-- What the datum says at each identifier. -/
def SeenZ (D : DataW Value) (G : Int → Option Value) : Prop :=
  ∀ u : Int, I64 u → Maps.has D (.int .i64 u) = (G u).isSome ∧ ∀ v, G u = some v → ∀ z, D.atKey (.int .i64 u) z = .held v
theorem SeenZ.put {D : DataW Value} {G : Int → Option Value} (h : SeenZ D G) (hD : IsMap D) {u : Int} (hu : I64 u) (v : Value) : SeenZ (D.put (.int .i64 u) (.held v)) (fun x => if x = u then some v else G x) := by
  intro x hx
  by_cases e : x = u
  · subst e
    simp only [if_true]
    exact ⟨has_put_same hD (by simp [WideAt.IsKeyLit]) _, fun y hy z => by cases hy; exact atKey_put_same hD (by simp [WideAt.IsKeyLit]) _ _⟩
  · have hne : (Lit.int .i64 x) ≠ Lit.int .i64 u := by simp; omega
    simp only [if_neg e]
    refine ⟨(has_put_other hne _).trans (h x hx).1, fun y hy z => (atKey_put_other hne _ _).trans ((h x hx).2 y hy z)⟩
theorem SeenZ.del {D : DataW Value} {G : Int → Option Value} (h : SeenZ D G) (u : Int) : SeenZ (D.del (.int .i64 u)) (fun x => if x = u then none else G x) := by
  intro x hx
  by_cases e : x = u
  · subst e
    simp only [if_true]
    exact ⟨has_del_same, fun y hy => by cases hy⟩
  · have hne : (Lit.int .i64 x) ≠ Lit.int .i64 u := by simp; omega
    simp only [if_neg e]
    refine ⟨has_del_other hne |>.trans (h x hx).1, fun y hy z => (atKey_del_other hne _).trans ((h x hx).2 y hy z)⟩

/-- The map in block b, of at most n entries: G what it holds, c how many. -/
def MapZ (w : World) (b n : Nat) (G : Int → Option Value) (c : Nat) : Prop :=
  ∃ D, w.ownsMap Try.prog 3 heldI b n D ∧ Maps.size D = c ∧ SeenZ D G
section
variable {w w' : World} {b n c : Nat} {G : Int → Option Value} {t e : TypeId}
theorem MapZ.made (w : World) : MapZ (w.alloc (.map #[] 0)) w.heap.size 0 (fun _ => none) 0 :=
  ⟨_, World.ownsMap_made _ _ _ _, rfl, fun u _ => ⟨rfl, fun v hv => by cases hv⟩⟩
theorem MapZ.lt (h : MapZ w b n G c) : b < w.heap.size := by
  obtain ⟨D, h, _⟩ := h
  exact h.lt
theorem MapZ.le (h : MapZ w b n G c) : c ≤ n := by
  obtain ⟨D, h, rfl, _⟩ := h
  exact h.size_le
theorem MapZ.mono (h : MapZ w b n G c) {m : Nat} (hm : n ≤ m) : MapZ w b m G c := by
  obtain ⟨D, h, r⟩ := h
  exact ⟨D, h.mono hm, r⟩
theorem MapZ.kept {row : Option Nat} (h : MapZ w b n G c) (hg : w.grownBy w' row) (hne : some b ≠ row) : MapZ w' b n G c := by
  obtain ⟨D, h, r⟩ := h
  exact ⟨D, h.kept hg hne, r⟩
theorem MapZ.below (h : MapZ w b n G c) (hb : Below w.heap.size w w') : MapZ w' b n G c :=
  h.kept (row := none) ⟨hb.os, hb.tape, hb.output, hb.size, fun k hk _ => hb.block k hk⟩ (by simp)
/-- All that a map is lies in its block. -/
theorem MapZ.at_ (h : MapZ w b n G c) (hb : w'.heap[b]? = w.heap[b]?) : MapZ w' b n G c := by
  obtain ⟨D, ⟨es, clock, h1, h2⟩, h3⟩ := h
  exact ⟨D, ⟨es, clock, hb.trans h1, h2⟩, h3⟩
theorem MapZ.tight (h : MapZ w b n G c) : MapZ w b c G c := by
  obtain ⟨D, ⟨es, clock, h1, F, hn, hD⟩, hc, hs⟩ := h
  refine ⟨D, ⟨es, clock, h1, F, ?_, hD⟩, hc, hs⟩
  have : Maps.size D = es.size := by
    rw [hD]
    show List.length (List.foldr _ _ _) = _
    rw [length_sorted]
    simp
  omega
theorem MapZ.congr {G' : Int → Option Value} (h : MapZ w b n G c) (e : ∀ u, I64 u → G' u = G u) : MapZ w b n G' c := by
  obtain ⟨D, h1, h2, h3⟩ := h
  refine ⟨D, h1, h2, fun u hu => ?_⟩
  rw [e u hu]
  exact h3 u hu
set_option maxRecDepth 100000 in
/-- 'v, ok := m[u]'. -/
theorem MapZ.look (h : MapZ w b n G c) (ht : Try.prog.underlying t = some (.map 3 e)) {z : Value} (hz : (zeroValue e).run Try.prog w = .ok z w) {u : Int} (hu : I64 u) :
    (Instr.lookup t (.map (some b)) (.int .i64 u) true).run Try.prog w = .ok (.tuple #[(G u).getD z, .bool (G u).isSome]) w := by
  obtain ⟨D, h, _, hs⟩ := h
  obtain ⟨v, ps, hrun, hv⟩ := h.look_ok lawI ht hz (zd := .held z) (zp := []) rfl (keyI hu)
  obtain ⟨h1, h2⟩ := hs u hu
  rw [hrun, h1]
  cases hG : G u with
  | none =>
    rw [atKey_of_not_has (by rw [h1, hG]; rfl)] at hv
    simp only [heldI, Option.some.injEq, Prod.mk.injEq, DataW.held.injEq] at hv
    rw [hv.1]
    rfl
  | some y =>
    rw [h2 y hG] at hv
    simp only [heldI, Option.some.injEq, Prod.mk.injEq, DataW.held.injEq] at hv
    rw [hv.1]
    rfl
set_option maxRecDepth 100000 in
/-- 'm[u]'. -/
theorem MapZ.look1 (h : MapZ w b n G c) (ht : Try.prog.underlying t = some (.map 3 e)) {z : Value} (hz : (zeroValue e).run Try.prog w = .ok z w) {u : Int} (hu : I64 u) :
    (Instr.lookup t (.map (some b)) (.int .i64 u) false).run Try.prog w = .ok ((G u).getD z) w := by
  obtain ⟨D, h, _, hs⟩ := h
  obtain ⟨v, ps, hrun, hv⟩ := h.lookup lawI ht hz (zd := .held z) (zp := []) rfl (keyI hu)
  obtain ⟨h1, h2⟩ := hs u hu
  rw [hrun]
  cases hG : G u with
  | none =>
    rw [atKey_of_not_has (by rw [h1, hG]; rfl)] at hv
    simp only [heldI, Option.some.injEq, Prod.mk.injEq, DataW.held.injEq] at hv
    rw [hv.1]
    rfl
  | some y =>
    rw [h2 y hG] at hv
    simp only [heldI, Option.some.injEq, Prod.mk.injEq, DataW.held.injEq] at hv
    rw [hv.1]
    rfl
set_option maxRecDepth 100000 in
/-- 'm[u] = v'. -/
theorem MapZ.store (h : MapZ w b n G c) (ht : Try.prog.underlying t = some (.map 3 e)) (hn : n < maxLen) {u : Int} (hu : I64 u) (v : Value) :
    ∃ w', (Instr.mapUpdate t (.map (some b)) (.int .i64 u) v).run Try.prog w = .ok () w' ∧ MapZ w' b (n + 1) (fun x => if x = u then some v else G x) (if (G u).isSome then c else c + 1) ∧ w.grownBy w' (some b) := by
  obtain ⟨D, h, hc, hs⟩ := h
  obtain ⟨w', hrun, h2, h3⟩ := h.update lawI ht hn (keyI hu) (d := .held v) (ps := []) rfl
  refine ⟨w', hrun, ⟨_, h2, ?_, hs.put h.isMap hu v⟩, h3⟩
  rw [size_put (h.tidy lawI), (hs u hu).1, hc]
set_option maxRecDepth 100000 in
/-- 'delete(m, u)'. -/
theorem MapZ.drop (h : MapZ w b n G c) (ht : Try.prog.underlying t = some (.map 3 e)) {u : Int} (hu : I64 u) (ty : TypeId) :
    ∃ w', (Builtin.delete_ #[t, 3] ty #[.map (some b), .int .i64 u]).run Try.prog w = .ok (.tuple #[]) w' ∧ MapZ w' b n (fun x => if x = u then none else G x) (if (G u).isSome then c - 1 else c) ∧ w.grownBy w' (some b) := by
  obtain ⟨D, h, hc, hs⟩ := h
  obtain ⟨w', hrun, h2, h3⟩ := h.drop lawI ht (keyI hu) ty
  refine ⟨w', hrun, ⟨_, h2, ?_, hs.del u⟩, h3.grown⟩
  have := size_del (h.tidy lawI) (k := .int .i64 u)
  rw [(hs u hu).1, hc] at this
  split at this <;> rename_i e
  · rw [if_pos e]; omega
  · rw [if_neg e]; omega
set_option maxRecDepth 100000 in
/-- 'len(m)'. -/
theorem MapZ.len (h : MapZ w b n G c) (ht : Try.prog.underlying t = some (.map 3 e)) (ty : TypeId) : (Builtin.len_ #[t] ty #[.map (some b)]).run Try.prog w = .ok (.int .i64 (c : Int)) w := by
  obtain ⟨D, h, rfl, _⟩ := h
  exact h.len ht ty
set_option maxRecDepth 100000 in
/-- Its keys, each named once. -/
theorem MapZ.keys (h : MapZ w b n G c) : ∃ K : List Int, K.Nodup ∧ K.length = c ∧ ∀ u, u ∈ K ↔ I64 u ∧ (G u).isSome := by
  obtain ⟨D, h, rfl, hs⟩ := h
  have hkw := h
  obtain ⟨es, clock, _, F, _, hD⟩ := hkw
  obtain ⟨l, rfl, hp, hk⟩ := h.entries lawI
  have hint : ∀ p ∈ l, ∃ u : Int, I64 u ∧ p.1 = .int .i64 u := by
    intro p hpm
    simp only [DataW.map.injEq] at hD
    rw [hD] at hpm
    obtain ⟨x, hx, rfl⟩ := List.mem_map.1 (mem_sorted.1 hpm)
    obtain ⟨y, hy⟩ := F.reads x hx
    rw [WideElems.rg_of hy]
    obtain ⟨a, _, h2, h3⟩ := keyOf_int_inv Try.underlying3 (WideElems.rd_key hy)
    exact ⟨a, bounds_i64 h3, h2⟩
  have hsz : Maps.size (DataW.map l) = l.length := rfl
  refine ⟨l.map fun p => match p.1 with | .int _ a => a | _ => 0, ?_, by rw [List.length_map, hsz], fun u => ?_⟩
  · rw [List.nodup_iff_pairwise_ne, List.pairwise_map]
    refine hp.imp_of_mem fun {p q} hpm hqm hne => ?_
    obtain ⟨a, _, ha⟩ := hint p hpm
    obtain ⟨b, _, hb⟩ := hint q hqm
    rw [ha, hb] at hne ⊢
    intro e
    apply hne
    simp only at e
    rw [e]
  · rw [List.mem_map]
    constructor
    · rintro ⟨p, hpm, rfl⟩
      obtain ⟨a, ha1, ha⟩ := hint p hpm
      rw [ha]
      refine ⟨ha1, ?_⟩
      rw [← (hs a ha1).1, has_eq, List.any_eq_true]
      exact ⟨p, hpm, by rw [ha]; exact WideAt.sameKey_self (by simp [WideAt.IsKeyLit])⟩
    · rintro ⟨h1, h2⟩
      rw [← (hs u h1).1, has_eq, List.any_eq_true] at h2
      obtain ⟨p, hpm, hpk⟩ := h2
      refine ⟨p, hpm, ?_⟩
      rw [WideAt.sameKey_eq hpk]
end
end Go.Proofs.Ytpfplniokjkcbaa
