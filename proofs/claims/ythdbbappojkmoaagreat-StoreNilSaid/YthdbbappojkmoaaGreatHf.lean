/- A map keyed by ints, whatever its elements: what it holds at each key, how many it holds. -/
import Derived.Test.YthdbbappojkmoaaGreatHa
import Derived.Maps.OwnSet
import Derived.WalkKit
import Derived.OpenShut
import Derived.Maps.RangeWalk
import Derived.Test.YthdbbappojkmoaaGreatHe
namespace Go.Proofs.YthdbbappojkmoaaGreat
open Go.RowKit Go.Maps Go.ChangeMaps

/-- A number that is an int. -/
def I64 (x : Int) : Prop := -9223372036854775808 ≤ x ∧ x ≤ 9223372036854775807
theorem lawI : Keyed Tryz.prog 3 := int_keyed Tryz.underlying3
theorem wfI {u : Int} (h : I64 u) : (Lit.int .i64 u).wf = true := by
  obtain ⟨h1, h2⟩ := h
  simp [Lit.wf, IntKind.min, IntKind.max, IntKind.bits, IntKind.signed]
  omega
theorem keyI {u : Int} (h : I64 u) : keyOf Tryz.prog 3 (.int .i64 u) = some (.int .i64 u) := keyOf_int_mk Tryz.underlying3 (wfI h)
/-- Each element reads as itself. -/
def heldI : Value → Option (DataW Value × List MemPlace) := fun v => some (.held v, [])
/-- What the datum says at each identifier. -/
def SeenZ (D : DataW Value) (G : Int → Option Value) : Prop :=
  ∀ u : Int, I64 u → Maps.has D (.int .i64 u) = (G u).isSome ∧ ∀ v, G u = some v → ∀ z, D.atKey (.int .i64 u) z = .held v
theorem SeenZ.put {D : DataW Value} {G : Int → Option Value} (h : SeenZ D G) (hD : IsMap D) {u : Int} (hu : I64 u) (v : Value) : SeenZ (D.put (.int .i64 u) (.held v)) (fun x => if x = u then some v else G x) := by
  intro x hx
  by_cases e : x = u
  · subst e
    simp only [if_true]
    exact ⟨has_put_same hD (by simp [WideAt.IsKeyLit]) _, fun y hy z => by cases hy; exact atKey_put_same hD (by simp [WideAt.IsKeyLit]) _ _⟩
  · have hne : (Lit.int .i64 x) ≠ Lit.int .i64 u := by simp; omega
    simp only [if_neg e]
    refine ⟨(has_put_other hne _).trans (h x hx).1, fun y hy z => (atKey_put_other hne _ _).trans ((h x hx).2 y hy z)⟩
theorem SeenZ.del {D : DataW Value} {G : Int → Option Value} (h : SeenZ D G) (u : Int) : SeenZ (D.del (.int .i64 u)) (fun x => if x = u then none else G x) := by
  intro x hx
  by_cases e : x = u
  · subst e
    simp only [if_true]
    exact ⟨has_del_same, fun y hy => by cases hy⟩
  · have hne : (Lit.int .i64 x) ≠ Lit.int .i64 u := by simp; omega
    simp only [if_neg e]
    refine ⟨has_del_other hne |>.trans (h x hx).1, fun y hy z => (atKey_del_other hne _).trans ((h x hx).2 y hy z)⟩

/-- The map in block b, of at most n entries: G what it holds, c how many. -/
def MapZ (w : World) (b n : Nat) (G : Int → Option Value) (c : Nat) : Prop :=
  ∃ D, w.ownsMap Tryz.prog 3 heldI b n D ∧ Maps.size D = c ∧ SeenZ D G
section
variable {w w' : World} {b n c : Nat} {G : Int → Option Value} {t e : TypeId}
theorem MapZ.made (w : World) : MapZ (w.alloc (.map #[] 0)) w.heap.size 0 (fun _ => none) 0 :=
  ⟨_, World.ownsMap_made _ _ _ _, rfl, fun u _ => ⟨rfl, fun v hv => by cases hv⟩⟩
theorem MapZ.lt (h : MapZ w b n G c) : b < w.heap.size := by
  obtain ⟨D, h, _⟩ := h
  exact h.lt
theorem MapZ.le (h : MapZ w b n G c) : c ≤ n := by
  obtain ⟨D, h, rfl, _⟩ := h
  exact h.size_le
theorem MapZ.mono (h : MapZ w b n G c) {m : Nat} (hm : n ≤ m) : MapZ w b m G c := by
  obtain ⟨D, h, r⟩ := h
  exact ⟨D, h.mono hm, r⟩
theorem MapZ.kept {row : Option Nat} (h : MapZ w b n G c) (hg : w.grownBy w' row) (hne : some b ≠ row) : MapZ w' b n G c := by
  obtain ⟨D, h, r⟩ := h
  exact ⟨D, h.kept hg hne, r⟩
theorem MapZ.below (h : MapZ w b n G c) (hb : Below w.heap.size w w') : MapZ w' b n G c :=
  h.kept (row := none) ⟨hb.os, hb.tape, hb.output, hb.size, fun k hk _ => hb.block k hk⟩ (by simp)
/-- All that a map is lies in its block. -/
theorem MapZ.at_ (h : MapZ w b n G c) (hb : w'.heap[b]? = w.heap[b]?) : MapZ w' b n G c := by
  obtain ⟨D, ⟨es, clock, h1, h2⟩, h3⟩ := h
  exact ⟨D, ⟨es, clock, hb.trans h1, h2⟩, h3⟩
theorem MapZ.tight (h : MapZ w b n G c) : MapZ w b c G c := by
  obtain ⟨D, ⟨es, clock, h1, F, hn, hD⟩, hc, hs⟩ := h
  refine ⟨D, ⟨es, clock, h1, F, ?_, hD⟩, hc, hs⟩
  have : Maps.size D = es.size := by
    rw [hD]
    show List.length (List.foldr _ _ _) = _
    rw [length_sorted]
    simp
  omega
theorem MapZ.congr {G' : Int → Option Value} (h : MapZ w b n G c) (e : ∀ u, I64 u → G' u = G u) : MapZ w b n G' c := by
  obtain ⟨D, h1, h2, h3⟩ := h
  refine ⟨D, h1, h2, fun u hu => ?_⟩
  rw [e u hu]
  exact h3 u hu
set_option maxRecDepth 100000 in
/-- 'v, ok := m[u]'. -/
theorem MapZ.look (h : MapZ w b n G c) (ht : Tryz.prog.underlying t = some (.map 3 e)) {z : Value} (hz : (zeroValue e).run Tryz.prog w = .ok z w) {u : Int} (hu : I64 u) :
    (Instr.lookup t (.map (some b)) (.int .i64 u) true).run Tryz.prog w = .ok (.tuple #[(G u).getD z, .bool (G u).isSome]) w := by
  obtain ⟨D, h, _, hs⟩ := h
  obtain ⟨v, ps, hrun, hv⟩ := h.look_ok lawI ht hz (zd := .held z) (zp := []) rfl (keyI hu)
  obtain ⟨h1, h2⟩ := hs u hu
  rw [hrun, h1]
  cases hG : G u with
  | none =>
    rw [atKey_of_not_has (by rw [h1, hG]; rfl)] at hv
    simp only [heldI, Option.some.injEq, Prod.mk.injEq, DataW.held.injEq] at hv
    rw [hv.1]
    rfl
  | some y =>
    rw [h2 y hG] at hv
    simp only [heldI, Option.some.injEq, Prod.mk.injEq, DataW.held.injEq] at hv
    rw [hv.1]
    rfl
set_option maxRecDepth 100000 in
/-- 'm[u]'. -/
theorem MapZ.look1 (h : MapZ w b n G c) (ht : Tryz.prog.underlying t = some (.map 3 e)) {z : Value} (hz : (zeroValue e).run Tryz.prog w = .ok z w) {u : Int} (hu : I64 u) :
    (Instr.lookup t (.map (some b)) (.int .i64 u) false).run Tryz.prog w = .ok ((G u).getD z) w := by
  obtain ⟨D, h, _, hs⟩ := h
  obtain ⟨v, ps, hrun, hv⟩ := h.lookup lawI ht hz (zd := .held z) (zp := []) rfl (keyI hu)
  obtain ⟨h1, h2⟩ := hs u hu
  rw [hrun]
  cases hG : G u with
  | none =>
    rw [atKey_of_not_has (by rw [h1, hG]; rfl)] at hv
    simp only [heldI, Option.some.injEq, Prod.mk.injEq, DataW.held.injEq] at hv
    rw [hv.1]
    rfl
  | some y =>
    rw [h2 y hG] at hv
    simp only [heldI, Option.some.injEq, Prod.mk.injEq, DataW.held.injEq] at hv
    rw [hv.1]
    rfl
set_option maxRecDepth 100000 in
/-- 'm[u] = v'. -/
theorem MapZ.store (h : MapZ w b n G c) (ht : Tryz.prog.underlying t = some (.map 3 e)) (hn : n < maxLen) {u : Int} (hu : I64 u) (v : Value) :
    ∃ w', (Instr.mapUpdate t (.map (some b)) (.int .i64 u) v).run Tryz.prog w = .ok () w' ∧ MapZ w' b (n + 1) (fun x => if x = u then some v else G x) (if (G u).isSome then c else c + 1) ∧ w.grownBy w' (some b) := by
  obtain ⟨D, h, hc, hs⟩ := h
  obtain ⟨w', hrun, h2, h3⟩ := h.update lawI ht hn (keyI hu) (d := .held v) (ps := []) rfl
  refine ⟨w', hrun, ⟨_, h2, ?_, hs.put h.isMap hu v⟩, h3⟩
  rw [size_put (h.tidy lawI), (hs u hu).1, hc]
set_option maxRecDepth 100000 in
/-- 'delete(m, u)'. -/
theorem MapZ.drop (h : MapZ w b n G c) (ht : Tryz.prog.underlying t = some (.map 3 e)) {u : Int} (hu : I64 u) (ty : TypeId) :
    ∃ w', (Builtin.delete_ #[t, 3] ty #[.map (some b), .int .i64 u]).run Tryz.prog w = .ok (.tuple #[]) w' ∧ MapZ w' b n (fun x => if x = u then none else G x) (if (G u).isSome then c - 1 else c) ∧ w.grownBy w' (some b) := by
  obtain ⟨D, h, hc, hs⟩ := h
  obtain ⟨w', hrun, h2, h3⟩ := h.drop lawI ht (keyI hu) ty
  refine ⟨w', hrun, ⟨_, h2, ?_, hs.del u⟩, h3.grown⟩
  have := size_del (h.tidy lawI) (k := .int .i64 u)
  rw [(hs u hu).1, hc] at this
  split at this <;> rename_i e
  · rw [if_pos e]; omega
  · rw [if_neg e]; omega
set_option maxRecDepth 100000 in
/-- 'len(m)'. -/
theorem MapZ.len (h : MapZ w b n G c) (ht : Tryz.prog.underlying t = some (.map 3 e)) (ty : TypeId) : (Builtin.len_ #[t] ty #[.map (some b)]).run Tryz.prog w = .ok (.int .i64 (c : Int)) w := by
  obtain ⟨D, h, rfl, _⟩ := h
  exact h.len ht ty
set_option maxRecDepth 100000 in
/-- Its keys, each named once. -/
theorem MapZ.keys (h : MapZ w b n G c) : ∃ K : List Int, K.Nodup ∧ K.length = c ∧ ∀ u, u ∈ K ↔ I64 u ∧ (G u).isSome := by
  obtain ⟨D, h, rfl, hs⟩ := h
  have hkw := h
  obtain ⟨es, clock, _, F, _, hD⟩ := hkw
  obtain ⟨l, rfl, hp, hk⟩ := h.entries lawI
  have hint : ∀ p ∈ l, ∃ u : Int, I64 u ∧ p.1 = .int .i64 u := by
    intro p hpm
    simp only [DataW.map.injEq] at hD
    rw [hD] at hpm
    obtain ⟨x, hx, rfl⟩ := List.mem_map.1 (mem_sorted.1 hpm)
    obtain ⟨y, hy⟩ := F.reads x hx
    rw [WideElems.rg_of hy]
    obtain ⟨a, _, h2, h3⟩ := keyOf_int_inv Tryz.underlying3 (WideElems.rd_key hy)
    exact ⟨a, bounds_i64 h3, h2⟩
  have hsz : Maps.size (DataW.map l) = l.length := rfl
  refine ⟨l.map fun p => match p.1 with | .int _ a => a | _ => 0, ?_, by rw [List.length_map, hsz], fun u => ?_⟩
  · rw [List.nodup_iff_pairwise_ne, List.pairwise_map]
    refine hp.imp_of_mem fun {p q} hpm hqm hne => ?_
    obtain ⟨a, _, ha⟩ := hint p hpm
    obtain ⟨b, _, hb⟩ := hint q hqm
    rw [ha, hb] at hne ⊢
    intro e
    apply hne
    simp only at e
    rw [e]
  · rw [List.mem_map]
    constructor
    · rintro ⟨p, hpm, rfl⟩
      obtain ⟨a, ha1, ha⟩ := hint p hpm
      rw [ha]
      refine ⟨ha1, ?_⟩
      rw [← (hs a ha1).1, has_eq, List.any_eq_true]
      exact ⟨p, hpm, by rw [ha]; exact WideAt.sameKey_self (by simp [WideAt.IsKeyLit])⟩
    · rintro ⟨h1, h2⟩
      rw [← (hs u h1).1, has_eq, List.any_eq_true] at h2
      obtain ⟨p, hpm, hpk⟩ := h2
      refine ⟨p, hpm, ?_⟩
      rw [WideAt.sameKey_eq hpk]
end
end Go.Proofs.YthdbbappojkmoaaGreat

namespace Go.Proofs.YthdbbappojkmoaaGreat
open Go.RowKit Go.Maps Go.ChangeMaps

/-- Block r ranges over the map in block b, which holds G; left: what is still to come, cnt how many. -/
def MapZR (w : World) (b r n : Nat) (G : Int → Option Value) (c : Nat) (left : Int → Bool) (cnt : Nat) : Prop :=
  ∃ D L, w.ranges Tryz.prog 3 heldI b r n D L cnt ∧ Maps.size D = c ∧ SeenZ D G ∧ ∀ u : Int, I64 u → L (.int .i64 u) = left u
section
variable {w w' : World} {b n c : Nat} {G : Int → Option Value} {t e : TypeId}
/-- 'range m'. -/
theorem MapZ.range (h : MapZ w b n G c) (ht : Tryz.prog.underlying t = some (.map 3 e)) :
    ∃ w', (Instr.range t (.map (some b))).run Tryz.prog w = .ok (.pointer (some ⟨w.heap.size, 0, none⟩)) w' ∧ MapZR w' b w.heap.size n G c (fun u => (G u).isSome) c ∧ w.grownBy w' none ∧ w'.heap.size = w.heap.size + 1 := by
  obtain ⟨D, h, rfl, hs⟩ := h
  obtain ⟨w', h1, h2, h3, h4⟩ := h.range lawI ht
  exact ⟨w', h1, ⟨D, _, h2, rfl, hs, fun u hu => (hs u hu).1⟩, h3, h4⟩
section
variable {r cnt : Nat} {left : Int → Bool}
theorem MapZR.map (h : MapZR w b r n G c left cnt) : MapZ w b n G c := by
  obtain ⟨D, L, h, hc, hs, _⟩ := h
  exact ⟨D, h.owns, hc, hs⟩
theorem MapZR.left_eq (h : MapZR w b r n G c left cnt) : w.rangeLeft b r = cnt := by
  obtain ⟨D, L, h, _⟩ := h
  exact h.left_eq
theorem MapZR.lt (h : MapZR w b r n G c left cnt) : r < w.heap.size := by
  obtain ⟨D, L, h, _⟩ := h
  exact h.lt
theorem MapZR.ne (h : MapZR w b r n G c left cnt) : r ≠ b := by
  obtain ⟨D, L, h, _⟩ := h
  exact h.ne
/-- All that a range is lies in two blocks. -/
theorem MapZR.at_ (h : MapZR w b r n G c left cnt) (hb : w'.heap[b]? = w.heap[b]?) (hr : w'.heap[r]? = w.heap[r]?) : MapZR w' b r n G c left cnt := by
  obtain ⟨D, L, ⟨es, clock, since, seen, c0, h1, h2, h3, h4, h5, h6⟩, k⟩ := h
  exact ⟨D, L, ⟨es, clock, since, seen, c0, hb.trans h1, h2, h3, h4, hr.trans h5, h6⟩, k⟩
theorem MapZR.below (h : MapZR w b r n G c left cnt) (hb : Below w.heap.size w w') : MapZR w' b r n G c left cnt :=
  h.at_ (hb.block b h.map.lt) (hb.block r h.lt)
set_option maxRecDepth 100000 in
/-- The next of a range: nothing is left, or some key that is left, with its element. -/
theorem MapZR.next (h : MapZR w b r n G c left cnt) (ty : TypeId) :
    (cnt = 0 ∧ (∀ u, I64 u → left u = false) ∧ (Instr.next (.pointer (some ⟨r, 0, none⟩)) false ty).run Tryz.prog w = .ok (.tuple #[.bool false]) w) ∨
    ∃ (u : Int) (v : Value) (w' : World) (cnt' : Nat), I64 u ∧ left u = true ∧ G u = some v ∧ (Instr.next (.pointer (some ⟨r, 0, none⟩)) false ty).run Tryz.prog w = .ok (.tuple #[.bool true, .int .i64 u, v]) w' ∧
      MapZR w' b r n G c (fun x => left x && !decide (x = u)) cnt' ∧ cnt' < cnt ∧ w.grownBy w' (some r) ∧ w'.heap.size = w.heap.size ∧ (Instr.entry (.pointer (some ⟨r, 0, none⟩))).run Tryz.prog w' = .ok (.tuple #[.int .i64 u, v]) w' := by
  obtain ⟨D, L, h, hc, hs, hl⟩ := h
  rcases h.next lawI ty with ⟨h0, h1, h2⟩ | ⟨key, v, kl, y, w', cnt', hk, hL, hR, hat, hrun, hr', hlt, hg, hsz, hen⟩
  · exact .inl ⟨h0, fun u hu => (hl u hu).symm.trans (h1 _), h2⟩
  · obtain ⟨u, rfl, rfl, hw⟩ := keyOf_int_inv Tryz.underlying3 hk
    have hu : I64 u := bounds_i64 hw
    simp only [heldI, Option.some.injEq] at hR
    subst hR
    have hh := has_true_of_atKey hat
    obtain ⟨x, hx⟩ := Option.isSome_iff_exists.1 ((hs u hu).1.symm.trans hh)
    have hxv := ((hs u hu).2 x hx .nil).symm.trans (hat .nil)
    simp only [DataW.held.injEq] at hxv
    subst hxv
    refine .inr ⟨u, x, w', cnt', hu, (hl u hu).symm.trans hL, hx, hrun, ⟨D, _, hr', hc, hs, fun z hz => ?_⟩, hlt, hg, hsz, hen⟩
    show (L (.int .i64 z) && !(Lit.int .i64 z).sameKey (.int .i64 u)) = _
    rw [hl z hz]
    by_cases e : z = u
    · subst e
      rw [WideAt.sameKey_self (by simp [WideAt.IsKeyLit])]
      simp
    · rw [sameKey_ne (by simp; omega)]
      simp [e]
end
end
end Go.Proofs.YthdbbappojkmoaaGreat

namespace Go.Proofs.YthdbbappojkmoaaGreat
open Go.RowKit Go.Maps

/-- What the map holds: where the queue of each subscriber lies. -/
def qG (gq : Int → Nat) (sub : Int → Option (List EvI)) : Int → Option Value := fun i => (sub i).map fun _ => .pointer (some ⟨gq i, 0, none⟩)
/-- The map in block mb (c entries): each subscriber's events lie in the queue gq, whose blocks are Sq. -/
structure QX (mb n c : Nat) (gq : Int → Nat) (Sq : Int → Nat → Prop) (sub : Int → Option (List EvI)) (w : World) : Prop where
  mp : MapZ w mb n (qG gq sub) c
  qt : ∀ i q, sub i = some q → QT (gq i) (Sq i) q w
  em : ∀ i, sub i = none → ∀ k, ¬ Sq i k
  dj : ∀ i j, i ≠ j → ∀ k, Sq i k → ¬ Sq j k
  mb : ∀ i k, Sq i k → k ≠ mb
/-- All blocks of it. -/
def QS (mb : Nat) (Sq : Int → Nat → Prop) (k : Nat) : Prop := k = mb ∨ ∃ i, Sq i k
def updI {α : Type} (f : Int → α) (u : Int) (x : α) : Int → α := fun i => if i = u then x else f i
theorem updI_same {α : Type} (f : Int → α) (u : Int) (x : α) : updI f u x u = x := if_pos rfl
theorem updI_other {α : Type} (f : Int → α) {u i : Int} (x : α) (h : i ≠ u) : updI f u x i = f i := if_neg h
section
variable {mb n c : Nat} {gq : Int → Nat} {Sq : Int → Nat → Prop} {sub : Int → Option (List EvI)} {w w' : World} {T : Nat → Prop}
theorem QX.qlt (h : QX mb n c gq Sq sub w) : ∀ i k, Sq i k → k < w.heap.size := by
  intro i k hk
  cases hs : sub i with
  | none => exact absurd hk (h.em i hs k)
  | some q => exact (h.qt i q hs).lt k hk
theorem QX.lt (h : QX mb n c gq Sq sub w) : ∀ k, QS mb Sq k → k < w.heap.size := by
  rintro k (rfl | ⟨i, hk⟩)
  · exact h.mp.lt
  · exact h.qlt i k hk
theorem QX.kept (h : QX mb n c gq Sq sub w) (hk : KeptO T w w') (hT : ∀ k, QS mb Sq k → ¬ T k) : QX mb n c gq Sq sub w' :=
  ⟨h.mp.at_ (hk.block mb h.mp.lt (hT mb (.inl rfl))), fun i q hs => (h.qt i q hs).kept hk fun k e => hT k (.inr ⟨i, e⟩), h.em, h.dj, h.mb⟩
theorem QX.below (h : QX mb n c gq Sq sub w) (hb : Below w.heap.size w w') : QX mb n c gq Sq sub w' :=
  h.kept (T := fun _ => False) (KeptO.of_below hb) fun _ _ => id
/-- One queue changed. -/
theorem QX.set (h : QX mb n c gq Sq sub w) {u : Int} {q q' : List EvI} {T' : Nat → Prop} (hs : sub u = some q) (ht : QT (gq u) T' q' w') (hm : MoreQ (Sq u) T' w) (hk : KeptO (Sq u) w w') :
    QX mb n c gq (updI Sq u T') (updI sub u (some q')) w' ∧ MoreQ (QS mb Sq) (QS mb (updI Sq u T')) w ∧ KeptO (QS mb Sq) w w' := by
  have new : ∀ k, T' k → Sq u k ∨ w.heap.size ≤ k := hm
  refine ⟨⟨?_, fun i q0 h0 => ?_, fun i h0 k hk0 => ?_, fun i j hij k hi hj => ?_, fun i k hi => ?_⟩, ?_, hk.mono fun k e => .inr ⟨u, e⟩⟩
  · refine (h.mp.at_ (hk.block mb h.mp.lt fun e => h.mb u mb e rfl)).congr fun i _ => ?_
    unfold qG
    by_cases e : i = u
    · subst e
      rw [updI_same, hs]
      rfl
    · rw [updI_other _ _ e]
  · by_cases e : i = u
    · subst e
      rw [updI_same] at h0 ⊢
      cases h0
      exact ht
    · rw [updI_other _ _ e] at h0 ⊢
      exact (h.qt i q0 h0).kept hk fun k h1 h2 => h.dj i u e k h1 h2
  · by_cases e : i = u
    · subst e
      rw [updI_same] at h0
      cases h0
    · rw [updI_other _ _ e] at h0 hk0
      exact h.em i h0 k hk0
  · by_cases e : i = u
    · subst e
      rw [updI_same] at hi
      rw [updI_other _ _ (Ne.symm hij)] at hj
      rcases new k hi with e2 | e2
      · exact h.dj i j hij k e2 hj
      · have := h.qlt j k hj
        omega
    · rw [updI_other _ _ e] at hi
      by_cases e2 : j = u
      · subst e2
        rw [updI_same] at hj
        rcases new k hj with e3 | e3
        · exact h.dj i j hij k hi e3
        · have := h.qlt i k hi
          omega
      · rw [updI_other _ _ e2] at hj
        exact h.dj i j hij k hi hj
  · by_cases e : i = u
    · subst e
      rw [updI_same] at hi
      rcases new k hi with e2 | e2
      · exact h.mb i k e2
      · have := h.mp.lt
        omega
    · rw [updI_other _ _ e] at hi
      exact h.mb i k hi
  · rintro k (rfl | ⟨i, hi⟩)
    · exact .inl (.inl rfl)
    · by_cases e : i = u
      · subst e
        rw [updI_same] at hi
        exact (new k hi).imp (fun e => .inr ⟨i, e⟩) id
      · rw [updI_other _ _ e] at hi
        exact .inl (.inr ⟨i, hi⟩)
/-- A new map. -/
theorem QX.made (w : World) : QX w.heap.size 0 0 (fun _ => 0) (fun _ _ => False) (fun _ => none) (w.alloc (.map #[] 0)) :=
  ⟨MapZ.made w, (fun i q h => by cases h), fun _ _ _ h => h, fun _ _ _ _ h => h.elim, fun _ _ h => h.elim⟩
/-- A queue put in for one who has none: the queue lies in new blocks. -/
theorem QX.add (h : QX mb n c gq Sq sub w) {u : Int} {g : Nat} {q : List EvI} (hu : I64 u) (hs : sub u = none) (ht : QT g T q w) (hT : ∀ i k, Sq i k → ¬ T k) (hTm : ¬ T mb) {t e : TypeId}
    (hty : Tryz.prog.underlying t = some (.map 3 e)) (hn : n < maxLen) :
    ∃ w', (Instr.mapUpdate t (.map (some mb)) (.int .i64 u) (.pointer (some ⟨g, 0, none⟩))).run Tryz.prog w = .ok () w' ∧
      QX mb (n + 1) (c + 1) (updI gq u g) (updI Sq u T) (updI sub u (some q)) w' ∧ w.grownBy w' (some mb) := by
  obtain ⟨w', hr, hm, hg⟩ := h.mp.store hty hn hu (.pointer (some ⟨g, 0, none⟩))
  have hG : qG gq sub u = none := by unfold qG; rw [hs]; rfl
  rw [hG] at hm
  have hk : KeptO (fun k => k = mb) w w' := KeptO.of_grown hg fun r e => by cases e; rfl
  refine ⟨w', hr, ⟨hm.congr fun i _ => ?_, fun i q0 h0 => ?_, fun i h0 k hk0 => ?_, fun i j hij k hi hj => ?_, fun i k hi => ?_⟩, hg⟩
  · unfold qG
    by_cases e : i = u
    · subst e
      rw [updI_same, updI_same, if_pos rfl]
      rfl
    · rw [updI_other _ _ e, updI_other _ _ e, if_neg e]
  · by_cases e : i = u
    · subst e
      rw [updI_same] at h0
      rw [updI_same, updI_same]
      cases h0
      exact ht.kept hk fun k h1 h2 => hTm (h2 ▸ h1)
    · rw [updI_other _ _ e] at h0
      rw [updI_other _ _ e, updI_other _ _ e]
      exact (h.qt i q0 h0).kept hk fun k h1 h2 => h.mb i k h1 h2
  · by_cases e : i = u
    · subst e
      rw [updI_same] at h0
      cases h0
    · rw [updI_other _ _ e] at h0 hk0
      exact h.em i h0 k hk0
  · by_cases e : i = u
    · subst e
      rw [updI_same] at hi
      rw [updI_other _ _ (Ne.symm hij)] at hj
      exact hT j k hj hi
    · rw [updI_other _ _ e] at hi
      by_cases e2 : j = u
      · subst e2
        rw [updI_same] at hj
        exact hT i k hi hj
      · rw [updI_other _ _ e2] at hj
        exact h.dj i j hij k hi hj
  · by_cases e : i = u
    · subst e
      rw [updI_same] at hi
      exact fun e2 => hTm (e2 ▸ hi)
    · rw [updI_other _ _ e] at hi
      exact h.mb i k hi
/-- A queue taken out. -/
theorem QX.drop (h : QX mb n c gq Sq sub w) {u : Int} (hu : I64 u) {t e : TypeId} (hty : Tryz.prog.underlying t = some (.map 3 e)) (ty : TypeId) :
    ∃ w', (Builtin.delete_ #[t, 3] ty #[.map (some mb), .int .i64 u]).run Tryz.prog w = .ok (.tuple #[]) w' ∧
      QX mb n (if (sub u).isSome then c - 1 else c) gq (updI Sq u fun _ => False) (updI sub u none) w' ∧ w.grownBy w' (some mb) := by
  obtain ⟨w', hr, hm, hg⟩ := h.mp.drop hty hu ty
  have hG : (qG gq sub u).isSome = (sub u).isSome := by unfold qG; rw [Option.isSome_map]
  rw [hG] at hm
  have hk : KeptO (fun k => k = mb) w w' := KeptO.of_grown hg fun r e => by cases e; rfl
  refine ⟨w', hr, ⟨hm.congr fun i _ => ?_, fun i q0 h0 => ?_, fun i h0 k hk0 => ?_, fun i j hij k hi hj => ?_, fun i k hi => ?_⟩, hg⟩
  · unfold qG
    by_cases e : i = u
    · subst e
      rw [updI_same, if_pos rfl]
      rfl
    · rw [updI_other _ _ e, if_neg e]
  · by_cases e : i = u
    · subst e
      rw [updI_same] at h0
      cases h0
    · rw [updI_other _ _ e] at h0 ⊢
      exact (h.qt i q0 h0).kept hk fun k h1 h2 => h.mb i k h1 h2
  · by_cases e : i = u
    · subst e
      rw [updI_same] at hk0
      exact hk0
    · rw [updI_other _ _ e] at h0 hk0
      exact h.em i h0 k hk0
  · by_cases e : i = u
    · subst e
      rw [updI_same] at hi
      exact hi
    · rw [updI_other _ _ e] at hi
      by_cases e2 : j = u
      · subst e2
        rw [updI_same] at hj
        exact hj
      · rw [updI_other _ _ e2] at hj
        exact h.dj i j hij k hi hj
  · by_cases e : i = u
    · subst e
      rw [updI_same] at hi
      exact hi.elim
    · rw [updI_other _ _ e] at hi
      exact h.mb i k hi
end
theorem nodup_sub_len : ∀ {a b : List Int}, a.Nodup → (∀ x ∈ a, x ∈ b) → a.length ≤ b.length
  | [], _, _, _ => Nat.zero_le _
  | x :: a, b, hn, hs => by
    rw [List.nodup_cons] at hn
    have hx : x ∈ b := hs x (List.mem_cons_self ..)
    have h1 : a.length ≤ (b.erase x).length := nodup_sub_len hn.2 fun y hy => (List.mem_erase_of_ne fun e => hn.1 (by rw [← e]; exact hy)).2 (hs y (List.mem_cons_of_mem _ hy))
    rw [List.length_erase_of_mem hx] at h1
    have : 0 < b.length := List.length_pos_of_mem hx
    simp only [List.length_cons]
    omega
/-- Few subscribers: few entries. -/
theorem QX.few {mb n c : Nat} {gq : Int → Nat} {Sq : Int → Nat → Prop} {sub : Int → Option (List EvI)} {w : World} (h : QX mb n c gq Sq sub w) {K : List Int} (hK : ∀ i, I64 i → (sub i).isSome = true → i ∈ K) : c ≤ K.length := by
  obtain ⟨L, h1, rfl, h2⟩ := h.mp.keys
  refine nodup_sub_len h1 fun x hx => ?_
  obtain ⟨h3, h4⟩ := (h2 x).1 hx
  refine hK x h3 ?_
  unfold qG at h4
  rwa [Option.isSome_map] at h4
end Go.Proofs.YthdbbappojkmoaaGreat

namespace Go.Proofs.YthdbbappojkmoaaGreat
open Go.RowKit Go.Maps

/-- In the middle of the range r over the queues: those that are left have their events still, the others were told. -/
structure EQ (mb r n c : Nat) (gq : Int → Nat) (Sq0 : Int → Nat → Prop) (sub : Int → Option (List EvI)) (tf : Int → List EvI → List EvI) (KW : World → Prop) (w0 : World) (left : Int → Bool) (cnt : Nat) (W : World) : Prop where
  ex : ∃ Sq, QX mb n c gq Sq (fun i => if left i = true then sub i else (sub i).map (tf i)) W ∧ MoreQ (QS mb Sq0) (QS mb Sq) w0 ∧ ∀ k, QS mb Sq k → k ≠ r
  rg : MapZR W mb r n (qG gq sub) c left cnt
  kp : KeptO (QS mb Sq0) w0 W
  kw : KW W
section
variable {mb r n c cnt cnt' : Nat} {gq : Int → Nat} {Sq0 : Int → Nat → Prop} {sub : Int → Option (List EvI)} {tf : Int → List EvI → List EvI} {KW : World → Prop} {w0 W W1 : World} {left left' : Int → Bool}
theorem EQ.start (h : QX mb n c gq Sq0 sub w0) (hr : r = w0.heap.size) (hR : MapZR W mb r n (qG gq sub) c (fun u => (qG gq sub u).isSome) c) (hg : w0.grownBy W none) (hK : KW w0)
    (hkeep : ∀ W W' T, KW W → (∀ k, T k → QS mb Sq0 k ∨ w0.heap.size ≤ k) → KeptO T W W' → KW W') : EQ mb r n c gq Sq0 sub tf KW w0 (fun u => (qG gq sub u).isSome) c W := by
  have hk : KeptO (fun _ => False) w0 W := KeptO.of_grown hg fun r e => by cases e
  refine ⟨⟨Sq0, ?_, fun k e => .inl e, fun k e => ?_⟩, hR, hk.mono fun _ e => e.elim, hkeep _ _ _ hK (fun _ e => e.elim) hk⟩
  · have e : (fun i => if (qG gq sub i).isSome = true then sub i else (sub i).map (tf i)) = sub := by
      funext i
      unfold qG
      rw [Option.isSome_map]
      cases sub i with
      | none => rfl
      | some q => rfl
    rw [e]
    exact h.kept hk fun _ _ => id
  · have := h.lt k e
    omega
/-- The next one: it may be called; behind the call it was told. -/
theorem EQ.call (h : EQ mb r n c gq Sq0 sub tf KW w0 left cnt W) (hr : r = w0.heap.size) {u : Int} {q : List EvI} (hl : left u = true) (hs : sub u = some q)
    (hR : MapZR W1 mb r n (qG gq sub) c (fun x => left x && !decide (x = u)) cnt') (hg : W.grownBy W1 (some r)) (hkeep : ∀ W W' T, KW W → (∀ k, T k → QS mb Sq0 k ∨ w0.heap.size ≤ k) → KeptO T W W' → KW W') :
    ∃ T, QT (gq u) T q W1 ∧ KW W1 ∧ (∀ k, T k → QS mb Sq0 k ∨ w0.heap.size ≤ k) ∧ ∀ T' W2, QT (gq u) T' (tf u q) W2 → MoreQ T T' W1 → KeptO T W1 W2 → EQ mb r n c gq Sq0 sub tf KW w0 (fun x => left x && !decide (x = u)) cnt' W2 := by
  obtain ⟨Sq, hq, hm, hne⟩ := h.ex
  have hk : KeptO (fun k => k = r) W W1 := KeptO.of_grown hg fun j e => by cases e; rfl
  have hq1 := hq.kept hk hne
  have hsu : (fun i => if left i = true then sub i else (sub i).map (tf i)) u = some q := by
    simp only [hl, if_true]
    exact hs
  have hkw := hkeep _ _ _ h.kw (fun k (e : k = r) => .inr (by omega)) hk
  refine ⟨Sq u, hq1.qt u q hsu, hkw, fun k e => hm k (.inr ⟨u, e⟩), fun T' W2 ht hm2 hk2 => ?_⟩
  obtain ⟨a1, a2, a3⟩ := hq1.set hsu ht hm2 hk2
  have hrlt := h.rg.lt
  have hw1 := hk.size
  refine ⟨⟨updI Sq u T', ?_, fun k e => ?_, fun k e => ?_⟩, ?_, ?_, ?_⟩
  · have e : updI (fun i => if left i = true then sub i else (sub i).map (tf i)) u (some (tf u q)) = fun i => if (left i && !decide (i = u)) = true then sub i else (sub i).map (tf i) := by
      funext i
      by_cases e : i = u
      · subst e
        rw [updI_same]
        simp [hs]
      · rw [updI_other _ _ e]
        simp [e]
    rw [← e]
    exact a1
  · rcases a2 k e with e | e
    · exact hm k e
    · have := h.kp.size
      exact .inr (by omega)
  · rcases a2 k e with e | e
    · exact hne k e
    · omega
  · exact hR.at_ (hk2.block mb hR.map.lt fun e => hq1.mb u mb e rfl) (hk2.block r hR.lt fun e => hne r (.inr ⟨u, e⟩) rfl)
  · refine (h.kp.trans hk fun j e => .inr (by omega)).trans hk2 fun j e => ?_
    exact hm j (.inr ⟨u, e⟩)
  · exact hkeep _ _ _ hkw (fun k e => hm k (.inr ⟨u, e⟩)) hk2
theorem EQ.done (h : EQ mb r n c gq Sq0 sub tf KW w0 left cnt W) (hl : ∀ u, I64 u → left u = false) (hi : ∀ i, (sub i).isSome = true → I64 i) :
    ∃ Sq, QX mb n c gq Sq (fun i => (sub i).map (tf i)) W ∧ MoreQ (QS mb Sq0) (QS mb Sq) w0 ∧ KeptO (QS mb Sq0) w0 W := by
  obtain ⟨Sq, hq, hm, _⟩ := h.ex
  refine ⟨Sq, ?_, hm, h.kp⟩
  have e : (fun i => if left i = true then sub i else (sub i).map (tf i)) = fun i => (sub i).map (tf i) := by
    funext i
    cases hs : sub i with
    | none => simp
    | some q =>
      rw [hl i (hi i (by rw [hs]; rfl))]
      rfl
  rw [← e]
  exact hq
end
end Go.Proofs.YthdbbappojkmoaaGreat

namespace Go.Proofs.YthdbbappojkmoaaGreat
open Go.RowKit Go.Maps

set_option maxRecDepth 100000 in
set_option maxHeartbeats 2000000 in
theorem eachQ_any (g mb n c F : Nat) (cs : Array Value) (gq : Int → Nat) (Sq : Int → Nat → Prop) (sub : Int → Option (List EvI)) (tf : Int → List EvI → List EvI) (KW : World → Prop) (w : World) (hc : w.cell? ⟨g, 4, none⟩ = some (.map (some mb))) (h : QX mb n c gq Sq sub w)
    (hi : ∀ i, (sub i).isSome = true → I64 i) (henter : ∀ args w, (callFunc F args).run Tryz.prog w = .ok (.enter F args) w) (hK : KW w)
    (hkeep : ∀ W W' T, KW W → (∀ k, T k → QS mb Sq k ∨ w.heap.size ≤ k) → KeptO T W W' → KW W')
    (hF : ∀ u q T W, I64 u → sub u = some q → QT (gq u) T q W → KW W → (∀ k, T k → QS mb Sq k ∨ w.heap.size ≤ k) → Calls Tryz.prog F (#[.int .i64 u, .pointer (some ⟨gq u, 0, none⟩)] ++ cs) W fun e w' => e = .returned (.tuple #[]) ∧ ∃ T', QT (gq u) T' (tf u q) w' ∧ MoreQ T T' W ∧ KeptO T W w') :
    Calls Tryz.prog 33 #[.pointer (some ⟨g, 0, none⟩), .func (.func F) #[] cs] w fun e w' => e = .returned (.tuple #[]) ∧ ∃ Sq', QX mb n c gq Sq' (fun i => (sub i).map (tf i)) w' ∧ MoreQ (QS mb Sq) (QS mb Sq') w ∧ KeptO (QS mb Sq) w w' := by
  obtain ⟨w0, hrun, hR0, hg0, hs0⟩ := h.mp.range (t := 70) Tryz.underlying70
  have HE0 := Lib.hid (EQ.start (tf := tf) h rfl hR0 hg0 hK hkeep)
  have HI := Lib.hid hi
  have HKEEP := Lib.hid hkeep
  have HF := Lib.hid hF
  clear hi hkeep hF hR0 hg0 hs0 h hK
  go_enter Tryz.func33, Tryz.ntmps33
  go_wp2_with fail
  clear hrun hc
  have hr0 : w.heap.size = w.heap.size := rfl
  generalize hr : w.heap.size = r at *
  clear hr0
  go_loopw [11] (fun _ wr => ∃ (left : Int → Bool) (cnt : Nat), Hid (EQ mb r n c gq Sq sub tf KW w left cnt wr)) (fun _ wr => wr.rangeLeft mb r)
  case atStart => exact ⟨_, _, HE0⟩
  case round =>
    obtain ⟨left, cnt, HE⟩ := hrel
    clear HE0
    rcases HE.out.rg.next 0 with ⟨hc, hall, hrun⟩ | ⟨u, x0, w1, cnt1, hu, hlu, hGu, hrun, hR1, hlt, hg1, hs1, hen⟩
    · have HH := Lib.hid hall
      clear hall hc
      go_wp2_with fail
      go_end0
      exact ⟨rfl, HE.out.done HH.out HI.out⟩
    · have hm0 := Lib.hid (HE.out.rg.left_eq)
      unfold qG at hGu
      rw [Option.map_eq_some_iff] at hGu
      obtain ⟨q, hq, rfl⟩ := hGu
      obtain ⟨T, ht, hkw, htm, hstep⟩ := HE.out.call hr.symm hlu hq hR1 hg1 (by rw [← hr] at HKEEP; exact HKEEP.out)
      have HST := Lib.hid hstep
      have C := Lib.hid (HF.out u q T w1 hu hq ht hkw (by rw [← hr]; exact htm))
      have hLT := Lib.hid hlt
      generalize gq u = gu at *
      clear ht hkw htm hstep hR1 hg1 hlt hq hlu hs1 hu
      go_wp2_with fail
      refine C.out.mono ?_
      rintro e w2 ⟨rfl, T', t1, t2, t3⟩
      have HE2 := Lib.hid (HST.out T' w2 t1 t2 t3)
      clear C t1 t2 t3 HST
      go_wp2_with fail
      go_roundw
      case rel => exact ⟨_, _, HE2⟩
      case measure => rw [HE2.out.rg.left_eq, hm0.out]; exact hLT.out
end Go.Proofs.YthdbbappojkmoaaGreat
