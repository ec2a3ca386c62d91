/- A map keyed by identifiers (uint32), whatever its elements: what it holds at each identifier, how many it holds; ranges over it. -/
import Derived.Test.YtcfpdflaabfdkaaGa
import Derived.Maps.OwnSet
import Derived.Maps.RangeWalk
import Derived.WalkKit
import Derived.OpenShut
import Derived.Laws.LoneSync
import Derived.Laws.NewBlocks
import Derived.Defers
import Derived.RegionCalls
import Derived.Test.YtcfpdflaabfdkaaGd
import Derived.Test.YtcfpdflaabfdkaaGc
import Derived.RegionTactic
import Derived.BigRegion
import Derived.BigQuiet
import Derived.Deep.QuietTactic
import Derived.Deep.Cut
import Derived.Lib.SmallJoins
namespace Go.Proofs.Ytcfpdflaabfdkaa
open Go.RowKit Go.Maps Go.ChangeMaps

theorem lawU : Keyed Try.prog 29 := int_keyed Try.underlying29
theorem wfU {u : Nat} (h : u ≤ 4294967295) : (Lit.int .u32 (u : Int)).wf = true := by
  simp [Lit.wf, IntKind.min, IntKind.max, IntKind.bits, IntKind.signed]
  omega
theorem keyU {u : Nat} (h : u ≤ 4294967295) : keyOf Try.prog 29 (.int .u32 (u : Int)) = some (.int .u32 (u : Int)) := keyOf_int_mk Try.underlying29 (wfU h)
/-- Each element reads as itself. -/
def heldR : Value → Option (DataW Value × List MemPlace) := fun v => some (.held v, [])
/-- What the datum says at each identifier. -/
def SeenV (D : DataW Value) (G : Nat → Option Value) : Prop :=
  ∀ u : Nat, u ≤ 4294967295 → Maps.has D (.int .u32 (u : Int)) = (G u).isSome ∧ ∀ v, G u = some v → ∀ z, D.atKey (.int .u32 (u : Int)) z = .held v
theorem SeenV.put {D : DataW Value} {G : Nat → Option Value} (h : SeenV D G) (hD : IsMap D) {u : Nat} (hu : u ≤ 4294967295) (v : Value) : SeenV (D.put (.int .u32 (u : Int)) (.held v)) (fun x => if x = u then some v else G x) := by
  intro x hx
  by_cases e : x = u
  · subst e
    simp only [if_true]
    exact ⟨has_put_same hD (by simp [WideAt.IsKeyLit]) _, fun y hy z => by cases hy; exact atKey_put_same hD (by simp [WideAt.IsKeyLit]) _ _⟩
  · have hne : (Lit.int .u32 (x : Int)) ≠ Lit.int .u32 (u : Int) := by simp; omega
    simp only [if_neg e]
    refine ⟨(has_put_other hne _).trans (h x hx).1, fun y hy z => (atKey_put_other hne _ _).trans ((h x hx).2 y hy z)⟩
theorem SeenV.del {D : DataW Value} {G : Nat → Option Value} (h : SeenV D G) (u : Nat) : SeenV (D.del (.int .u32 (u : Int))) (fun x => if x = u then none else G x) := by
  intro x hx
  by_cases e : x = u
  · subst e
    simp only [if_true]
    exact ⟨has_del_same, fun y hy => by cases hy⟩
  · have hne : (Lit.int .u32 (x : Int)) ≠ Lit.int .u32 (u : Int) := by simp; omega
    simp only [if_neg e]
    refine ⟨has_del_other hne |>.trans (h x hx).1, fun y hy z => (atKey_del_other hne _).trans ((h x hx).2 y hy z)⟩

/-- The map in block b, of at most n entries: G what it holds, c how many. -/
def MapV (w : World) (b n : Nat) (G : Nat → Option Value) (c : Nat) : Prop :=
  ∃ D, w.ownsMap Try.prog 29 heldR b n D ∧ Maps.size D = c ∧ SeenV D G
section
variable {w w' : World} {b n c : Nat} {G : Nat → Option Value} {t e : TypeId}
theorem MapV.made (w : World) : MapV (w.alloc (.map #[] 0)) w.heap.size 0 (fun _ => none) 0 :=
  ⟨_, World.ownsMap_made _ _ _ _, rfl, fun u _ => ⟨rfl, fun v hv => by cases hv⟩⟩
theorem MapV.lt (h : MapV w b n G c) : b < w.heap.size := by
  obtain ⟨D, h, _⟩ := h
  exact h.lt
theorem MapV.le (h : MapV w b n G c) : c ≤ n := by
  obtain ⟨D, h, rfl, _⟩ := h
  exact h.size_le
theorem MapV.mono (h : MapV w b n G c) {m : Nat} (hm : n ≤ m) : MapV w b m G c := by
  obtain ⟨D, h, r⟩ := h
  exact ⟨D, h.mono hm, r⟩
theorem MapV.kept {row : Option Nat} (h : MapV w b n G c) (hg : w.grownBy w' row) (hne : some b ≠ row) : MapV w' b n G c := by
  obtain ⟨D, h, r⟩ := h
  exact ⟨D, h.kept hg hne, r⟩
theorem MapV.below (h : MapV w b n G c) (hb : Below w.heap.size w w') : MapV w' b n G c :=
  h.kept (row := none) ⟨hb.os, hb.tape, hb.output, hb.size, fun k hk _ => hb.block k hk⟩ (by simp)
set_option maxRecDepth 100000 in
/-- 'v, ok := m[u]'. -/
theorem MapV.look (h : MapV w b n G c) (ht : Try.prog.underlying t = some (.map 29 e)) {z : Value} (hz : (zeroValue e).run Try.prog w = .ok z w) {u : Nat} (hu : u ≤ 4294967295) :
    (Instr.lookup t (.map (some b)) (.int .u32 (u : Int)) true).run Try.prog w = .ok (.tuple #[(G u).getD z, .bool (G u).isSome]) w := by
  obtain ⟨D, h, _, hs⟩ := h
  obtain ⟨v, ps, hrun, hv⟩ := h.look_ok lawU ht hz (zd := .held z) (zp := []) rfl (keyU hu)
  obtain ⟨h1, h2⟩ := hs u hu
  rw [hrun, h1]
  cases hG : G u with
  | none =>
    rw [atKey_of_not_has (by rw [h1, hG]; rfl)] at hv
    simp only [heldR, Option.some.injEq, Prod.mk.injEq, DataW.held.injEq] at hv
    rw [hv.1]
    rfl
  | some y =>
    rw [h2 y hG] at hv
    simp only [heldR, Option.some.injEq, Prod.mk.injEq, DataW.held.injEq] at hv
    rw [hv.1]
    rfl
set_option maxRecDepth 100000 in
/-- 'm[u]'. -/
theorem MapV.look1 (h : MapV w b n G c) (ht : Try.prog.underlying t = some (.map 29 e)) {z : Value} (hz : (zeroValue e).run Try.prog w = .ok z w) {u : Nat} (hu : u ≤ 4294967295) :
    (Instr.lookup t (.map (some b)) (.int .u32 (u : Int)) false).run Try.prog w = .ok ((G u).getD z) w := by
  obtain ⟨D, h, _, hs⟩ := h
  obtain ⟨v, ps, hrun, hv⟩ := h.lookup lawU ht hz (zd := .held z) (zp := []) rfl (keyU hu)
  obtain ⟨h1, h2⟩ := hs u hu
  rw [hrun]
  cases hG : G u with
  | none =>
    rw [atKey_of_not_has (by rw [h1, hG]; rfl)] at hv
    simp only [heldR, Option.some.injEq, Prod.mk.injEq, DataW.held.injEq] at hv
    rw [hv.1]
    rfl
  | some y =>
    rw [h2 y hG] at hv
    simp only [heldR, Option.some.injEq, Prod.mk.injEq, DataW.held.injEq] at hv
    rw [hv.1]
    rfl
set_option maxRecDepth 100000 in
/-- 'm[u] = v'. -/
theorem MapV.store (h : MapV w b n G c) (ht : Try.prog.underlying t = some (.map 29 e)) (hn : n < maxLen) {u : Nat} (hu : u ≤ 4294967295) (v : Value) :
    ∃ w', (Instr.mapUpdate t (.map (some b)) (.int .u32 (u : Int)) v).run Try.prog w = .ok () w' ∧ MapV w' b (n + 1) (fun x => if x = u then some v else G x) (if (G u).isSome then c else c + 1) ∧ w.grownBy w' (some b) := by
  obtain ⟨D, h, hc, hs⟩ := h
  obtain ⟨w', hrun, h2, h3⟩ := h.update lawU ht hn (keyU hu) (d := .held v) (ps := []) rfl
  refine ⟨w', hrun, ⟨_, h2, ?_, hs.put h.isMap hu v⟩, h3⟩
  rw [size_put (h.tidy lawU), (hs u hu).1, hc]
set_option maxRecDepth 100000 in
/-- 'delete(m, u)'. -/
theorem MapV.drop (h : MapV w b n G c) (ht : Try.prog.underlying t = some (.map 29 e)) {u : Nat} (hu : u ≤ 4294967295) (ty : TypeId) :
    ∃ w', (Builtin.delete_ #[t, 29] ty #[.map (some b), .int .u32 (u : Int)]).run Try.prog w = .ok (.tuple #[]) w' ∧ MapV w' b n (fun x => if x = u then none else G x) (if (G u).isSome then c - 1 else c) ∧ w.grownBy w' (some b) := by
  obtain ⟨D, h, hc, hs⟩ := h
  obtain ⟨w', hrun, h2, h3⟩ := h.drop lawU ht (keyU hu) ty
  refine ⟨w', hrun, ⟨_, h2, ?_, hs.del u⟩, h3.grown⟩
  have := size_del (h.tidy lawU) (k := .int .u32 (u : Int))
  rw [(hs u hu).1, hc] at this
  split at this <;> rename_i e
  · rw [if_pos e]; omega
  · rw [if_neg e]; omega
set_option maxRecDepth 100000 in
/-- 'len(m)'. -/
theorem MapV.len (h : MapV w b n G c) (ht : Try.prog.underlying t = some (.map 29 e)) (ty : TypeId) : (Builtin.len_ #[t] ty #[.map (some b)]).run Try.prog w = .ok (.int .i64 (c : Int)) w := by
  obtain ⟨D, h, rfl, _⟩ := h
  exact h.len ht ty
set_option maxRecDepth 100000 in
/-- Its identifiers, each named once. -/
theorem MapV.keys (h : MapV w b n G c) : ∃ K : List Nat, K.Nodup ∧ K.length = c ∧ ∀ u, u ∈ K ↔ u ≤ 4294967295 ∧ (G u).isSome := by
  obtain ⟨D, h, rfl, hs⟩ := h
  have hkw := h
  obtain ⟨es, clock, _, F, _, hD⟩ := hkw
  obtain ⟨l, rfl, hp, hk⟩ := h.entries lawU
  have hint : ∀ p ∈ l, ∃ u : Nat, u ≤ 4294967295 ∧ p.1 = .int .u32 (u : Int) := by
    intro p hpm
    simp only [DataW.map.injEq] at hD
    rw [hD] at hpm
    obtain ⟨x, hx, rfl⟩ := List.mem_map.1 (mem_sorted.1 hpm)
    obtain ⟨y, hy⟩ := F.reads x hx
    rw [WideElems.rg_of hy]
    obtain ⟨a, _, h2, h3⟩ := keyOf_int_inv Try.underlying29 (WideElems.rd_key hy)
    have := bounds_u32 h3
    exact ⟨a.toNat, by omega, by rw [h2]; congr 1; omega⟩
  have hsz : Maps.size (DataW.map l) = l.length := rfl
  refine ⟨l.map fun p => match p.1 with | .int _ a => a.toNat | _ => 0, ?_, by rw [List.length_map, hsz], fun u => ?_⟩
  · rw [List.nodup_iff_pairwise_ne, List.pairwise_map]
    refine hp.imp_of_mem fun {p q} hpm hqm hne => ?_
    obtain ⟨a, _, ha⟩ := hint p hpm
    obtain ⟨b, _, hb⟩ := hint q hqm
    rw [ha, hb] at hne ⊢
    intro e
    apply hne
    simp only [Int.toNat_natCast] at e
    rw [e]
  · rw [List.mem_map]
    constructor
    · rintro ⟨p, hpm, rfl⟩
      obtain ⟨a, ha1, ha⟩ := hint p hpm
      rw [ha]
      show (a : Int).toNat ≤ 4294967295 ∧ (G (a : Int).toNat).isSome
      rw [Int.toNat_natCast]
      refine ⟨ha1, ?_⟩
      rw [← (hs a ha1).1, has_eq, List.any_eq_true]
      exact ⟨p, hpm, by rw [ha]; exact WideAt.sameKey_self (by simp [WideAt.IsKeyLit])⟩
    · rintro ⟨h1, h2⟩
      rw [← (hs u h1).1, has_eq, List.any_eq_true] at h2
      obtain ⟨p, hpm, hpk⟩ := h2
      refine ⟨p, hpm, ?_⟩
      rw [WideAt.sameKey_eq hpk]
      exact Int.toNat_natCast u

/-- Block r ranges over the map in block b, which holds G; left: what is still to come, cnt how many. -/
def MapR (w : World) (b r n : Nat) (G : Nat → Option Value) (c : Nat) (left : Nat → Bool) (cnt : Nat) : Prop :=
  ∃ D L, w.ranges Try.prog 29 heldR b r n D L cnt ∧ Maps.size D = c ∧ SeenV D G ∧ ∀ u : Nat, u ≤ 4294967295 → L (.int .u32 (u : Int)) = left u
/-- 'range m'. -/
theorem MapV.range (h : MapV w b n G c) (ht : Try.prog.underlying t = some (.map 29 e)) :
    ∃ w', (Instr.range t (.map (some b))).run Try.prog w = .ok (.pointer (some ⟨w.heap.size, 0, none⟩)) w' ∧ MapR w' b w.heap.size n G c (fun u => (G u).isSome) c ∧ w.grownBy w' none ∧ w'.heap.size = w.heap.size + 1 := by
  obtain ⟨D, h, rfl, hs⟩ := h
  obtain ⟨w', h1, h2, h3, h4⟩ := h.range lawU ht
  exact ⟨w', h1, ⟨D, _, h2, rfl, hs, fun u hu => (hs u hu).1⟩, h3, h4⟩
section
variable {r cnt : Nat} {left : Nat → Bool}
theorem MapR.map (h : MapR w b r n G c left cnt) : MapV w b n G c := by
  obtain ⟨D, L, h, hc, hs, _⟩ := h
  exact ⟨D, h.owns, hc, hs⟩
theorem MapR.left_eq (h : MapR w b r n G c left cnt) : w.rangeLeft b r = cnt := by
  obtain ⟨D, L, h, _⟩ := h
  exact h.left_eq
theorem MapR.lt (h : MapR w b r n G c left cnt) : r < w.heap.size := by
  obtain ⟨D, L, h, _⟩ := h
  exact h.lt
theorem MapR.ne (h : MapR w b r n G c left cnt) : r ≠ b := by
  obtain ⟨D, L, h, _⟩ := h
  exact h.ne
theorem MapR.kept {row : Option Nat} (h : MapR w b r n G c left cnt) (hg : w.grownBy w' row) (hb : some b ≠ row) (hr : some r ≠ row) : MapR w' b r n G c left cnt := by
  obtain ⟨D, L, h, k⟩ := h
  exact ⟨D, L, h.kept hg hb hr, k⟩
theorem MapR.below (h : MapR w b r n G c left cnt) (hb : Below w.heap.size w w') : MapR w' b r n G c left cnt :=
  h.kept (row := none) ⟨hb.os, hb.tape, hb.output, hb.size, fun k hk _ => hb.block k hk⟩ (by simp) (by simp)
set_option maxRecDepth 100000 in
/-- The next of a range: nothing is left, or some identifier that is left, with its element. -/
theorem MapR.next (h : MapR w b r n G c left cnt) (ty : TypeId) :
    (cnt = 0 ∧ (∀ u, u ≤ 4294967295 → left u = false) ∧ (Instr.next (.pointer (some ⟨r, 0, none⟩)) false ty).run Try.prog w = .ok (.tuple #[.bool false]) w) ∨
    ∃ (u : Nat) (v : Value) (w' : World) (cnt' : Nat), u ≤ 4294967295 ∧ left u = true ∧ G u = some v ∧ (Instr.next (.pointer (some ⟨r, 0, none⟩)) false ty).run Try.prog w = .ok (.tuple #[.bool true, .int .u32 (u : Int), v]) w' ∧
      MapR w' b r n G c (fun x => left x && !decide (x = u)) cnt' ∧ cnt' < cnt ∧ w.grownBy w' (some r) ∧ w'.heap.size = w.heap.size ∧ (Instr.entry (.pointer (some ⟨r, 0, none⟩))).run Try.prog w' = .ok (.tuple #[.int .u32 (u : Int), v]) w' := by
  obtain ⟨D, L, h, hc, hs, hl⟩ := h
  rcases h.next lawU ty with ⟨h0, h1, h2⟩ | ⟨key, v, kl, y, w', cnt', hk, hL, hR, hat, hrun, hr', hlt, hg, hsz, hen⟩
  · exact .inl ⟨h0, fun u hu => (hl u hu).symm.trans (h1 _), h2⟩
  · obtain ⟨a, rfl, rfl, hw⟩ := keyOf_int_inv Try.underlying29 hk
    have hb := bounds_u32 hw
    obtain ⟨u, rfl⟩ : ∃ u : Nat, a = u := ⟨a.toNat, by omega⟩
    have hu : u ≤ 4294967295 := by omega
    simp only [heldR, Option.some.injEq] at hR
    subst hR
    have hh := has_true_of_atKey hat
    obtain ⟨x, hx⟩ := Option.isSome_iff_exists.1 ((hs u hu).1.symm.trans hh)
    have hxv := ((hs u hu).2 x hx .nil).symm.trans (hat .nil)
    simp only [DataW.held.injEq] at hxv
    subst hxv
    refine .inr ⟨u, x, w', cnt', hu, (hl u hu).symm.trans hL, hx, hrun, ⟨D, _, hr', hc, hs, fun z hz => ?_⟩, hlt, hg, hsz, hen⟩
    show (L (.int .u32 (z : Int)) && !(Lit.int .u32 (z : Int)).sameKey (.int .u32 (u : Int))) = _
    rw [hl z hz]
    by_cases e : z = u
    · subst e
      rw [WideAt.sameKey_self (by simp [WideAt.IsKeyLit])]
      simp
    · rw [sameKey_ne (by simp; omega)]
      simp [e]
end
end
end Go.Proofs.Ytcfpdflaabfdkaa

namespace Go.Proofs.Ytcfpdflaabfdkaa
open Go.RowKit

theorem disable (w : World) : (callFunc 71 #[]).run Try.prog w = .ok (.value (.tuple #[])) w := run_call_mark0 Try.func71 (by kernel_rfl) (by kernel_rfl) (by kernel_rfl) .disable (by kernel_rfl) w
theorem enable (w : World) : (callFunc 73 #[]).run Try.prog w = .ok (.value (.tuple #[])) w := run_call_mark0 Try.func73 (by kernel_rfl) (by kernel_rfl) (by kernel_rfl) .enable (by kernel_rfl) w
theorem acquire (a : Addr) (w : World) : (callFunc 74 #[.pointer (some a)]).run Try.prog w = .ok (.value (.tuple #[])) w := run_call_marked Try.func74 (by kernel_rfl) (by kernel_rfl) (by kernel_rfl) .acquire (by kernel_rfl) a w
theorem releaseMerge (a : Addr) (w : World) : (callFunc 76 #[.pointer (some a)]).run Try.prog w = .ok (.value (.tuple #[])) w := run_call_marked Try.func76 (by kernel_rfl) (by kernel_rfl) (by kernel_rfl) .releaseMerge (by kernel_rfl) a w

set_option maxRecDepth 100000 in
/-- '(*sync.Mutex).Unlock', entered as a deferred call, the lock held and nobody waiting: state 0. -/
theorem unlock_deferred (a : Addr) (u : FrameMode) (w : World) (hc : w.cell? a = some (.int .i32 1)) (hz : w.frozen? a = false) :
    CallsD Try.prog 48 #[.pointer (some a)] u w fun e u' w' => u' = u ∧ (e = .returned (.tuple #[]) ∧ w' = w.setCell a (.int .i32 0)) := by
  have hd := disable
  have he := enable
  have hr := releaseMerge
  have hadd := run_call_add (P := Try.prog) Try.func77 (by kernel_rfl) (by kernel_rfl) (by kernel_rfl) .i32 (by kernel_rfl) (y := -1) (s := 0) hc hz (by simp [go_sem]; rfl)
  have hcv := run_convert_to_unsafe (P := Try.prog) (src := 115) (dst := 119) Try.underlying115 Try.underlying119 (by kernel_rfl) hc
  go_enter_d Try.func48, Try.ntmps48
  go_wp2
  go_end0
  go_wp2
  go_end0
  exact ⟨rfl, rfl⟩

set_option maxRecDepth 100000 in
/-- '(*sync.Mutex).Lock', the lock free: state 1. -/
theorem lock_free (a : Addr) (w : World) (hc : w.cell? a = some (.int .i32 0)) (hz : w.frozen? a = false) :
    Calls Try.prog 47 #[.pointer (some a)] w fun e w' => e = .returned (.tuple #[]) ∧ w' = w.setCell a (.int .i32 1) := by
  have hd := disable
  have he := enable
  have ha := acquire
  have hcas := run_call_cas_hit (P := Try.prog) Try.func72 (by kernel_rfl) (by kernel_rfl) (by kernel_rfl) .i32 (by kernel_rfl) (y := 1) hc hz
  have hc' : (w.setCell a (.int .i32 1)).cell? a = some (.int .i32 1) := World.cell?_setCell_same w a _ hc
  have hcv := run_convert_to_unsafe (P := Try.prog) (src := 115) (dst := 119) Try.underlying115 Try.underlying119 (by kernel_rfl) hc'
  go_enter Try.func47, Try.ntmps47
  go_wp2
  first | go_end0 | (simp only [Exit.inBlock, Exit.then]; refine bodyPost_ret (results_none rfl _ _ _) rfl ?_) | refine bodyPost_ret (results_none rfl _ _ _) rfl ?_
  go_wp2
  go_end0
  exact ⟨rfl, rfl⟩
end Go.Proofs.Ytcfpdflaabfdkaa

namespace Go.Proofs.Ytcfpdflaabfdkaa
open Go.RowKit

structure KeptO (S : Nat → Prop) (w w' : World) : Prop where
  os : w'.os = w.os
  tape : w'.tape = w.tape
  output : w'.output = w.output
  size : w.heap.size ≤ w'.heap.size
  block : ∀ k, k < w.heap.size → ¬ S k → w'.heap[k]? = w.heap[k]?
section
variable {S S' : Nat → Prop} {w w' w'' : World}
theorem KeptO.refl (S : Nat → Prop) (w : World) : KeptO S w w := ⟨rfl, rfl, rfl, Nat.le_refl _, fun _ _ _ => rfl⟩
theorem KeptO.of_below (h : Below w.heap.size w w') : KeptO S w w' := ⟨h.os, h.tape, h.output, h.size, fun k hk _ => h.block k hk⟩
theorem KeptO.of_grown {row : Option Nat} (h : w.grownBy w' row) (hr : ∀ r, row = some r → S r) : KeptO S w w' :=
  ⟨h.os, h.tape, h.output, h.size, fun k hk hS => h.block k hk (fun e => hS (hr k e.symm))⟩
theorem KeptO.mono (h : KeptO S w w') (hs : ∀ k, S k → S' k) : KeptO S' w w' := ⟨h.os, h.tape, h.output, h.size, fun k hk hS => h.block k hk fun e => hS (hs k e)⟩
/-- One after the other; the second's set may hold blocks that are new. -/
theorem KeptO.trans (h : KeptO S w w') (k : KeptO S' w' w'') (hs : ∀ j, S' j → S j ∨ w.heap.size ≤ j) : KeptO S w w'' :=
  ⟨k.os.trans h.os, k.tape.trans h.tape, k.output.trans h.output, Nat.le_trans h.size k.size, fun j hj hS => (k.block j (Nat.lt_of_lt_of_le hj h.size) fun e => by
    rcases hs j e with e | e
    · exact hS e
    · omega).trans (h.block j hj hS)⟩
theorem KeptO.then_below (h : KeptO S w w') (k : Below w'.heap.size w' w'') : KeptO S w w'' := h.trans (KeptO.of_below (S := S) k) fun _ e => .inl e
theorem KeptO.after_below (h : Below w.heap.size w w') (k : KeptO S w' w'') : KeptO S w w'' := (KeptO.of_below (S := S) h).trans k fun _ e => .inl e
theorem KeptO.below {B : Nat} (h : KeptO S w w') (hS : ∀ k, S k → B ≤ k) (hB : B ≤ w.heap.size) : Below B w w' :=
  ⟨h.os, h.tape, h.output, h.size, fun k hk => h.block k (Nat.lt_of_lt_of_le hk hB) fun e => by have := hS k e; omega⟩
theorem KeptO.heap (h : KeptO S w w') {k : Nat} {o : Obj} (hk : w.heap[k]? = some o) (hS : ¬ S k) : w'.heap[k]? = some o :=
  (h.block k (Array.getElem?_eq_some_iff.1 hk).1 hS).trans hk
theorem KeptO.cell (h : KeptO S w w') {a : Addr} {v : Value} (hlt : a.block < w.heap.size) (hc : w.cell? a = some v) (hS : ¬ S a.block) : w'.cell? a = some v :=
  (World.cell?_of_block (h.block a.block hlt hS)).trans hc
/-- A slice's array lies outside the set. -/
def Out (S : Nat → Prop) (A : Option Addr) : Prop := ∀ a, A = some a → ¬ S a.block
theorem Out.none (S : Nat → Prop) : Out S none := fun a h => by cases h
theorem SlAt.keptO {α : Type} {enc : α → List Value} {k : Nat} {A : Option Addr} {l : List α} (h : SlAt enc k w A l) (ho : Out S A) (hk : KeptO S w w') : SlAt enc k w' A l := by
  rcases h with h | ⟨b, off, hA, hlt, hc⟩
  · exact .inl h
  · exact .inr ⟨b, off, hA, Nat.lt_of_lt_of_le hlt hk.size, fun j x hj i v hi => hk.cell (a := ⟨b, off + j * k + i, Option.none⟩) hlt (hc j x hj i v hi) (show ¬ S b from ho _ hA)⟩
theorem own_out {base : Nat} {e : TypeId} {size n m c : Nat} {A : Option Addr} {xs : List Value} (h : w.ownsRow base e size (.slice A m c) n xs) (hS : ∀ k, S k → k < base) : Out S A := by
  intro a ha hSa
  rcases h.2 with ⟨h1, _⟩ | ⟨g, cap, cur, h1, hb, _⟩
  · injection h1 with h1
    rw [h1] at ha
    cases ha
  · injection h1 with h1
    rw [h1] at ha
    injection ha with ha
    subst ha
    have := hS _ hSa
    simp only at this
    omega
end
end Go.Proofs.Ytcfpdflaabfdkaa

namespace Go.Proofs.Ytcfpdflaabfdkaa
open Go.RowKit Go.Maps

section
variable {w w' : World} {b n c : Nat} {G G' : Nat → Option Value}
/-- All that a map is lies in its block. -/
theorem MapV.at_ (h : MapV w b n G c) (hb : w'.heap[b]? = w.heap[b]?) : MapV w' b n G c := by
  obtain ⟨D, ⟨es, clock, h1, h2⟩, h3⟩ := h
  exact ⟨D, ⟨es, clock, hb.trans h1, h2⟩, h3⟩
theorem MapV.tight (h : MapV w b n G c) : MapV w b c G c := by
  obtain ⟨D, ⟨es, clock, h1, F, hn, hD⟩, hc, hs⟩ := h
  refine ⟨D, ⟨es, clock, h1, F, ?_, hD⟩, hc, hs⟩
  have : Maps.size D = es.size := by
    rw [hD]
    show List.length (List.foldr _ _ _) = _
    rw [length_sorted]
    simp
  omega
theorem MapV.congr (h : MapV w b n G c) (e : ∀ u, u ≤ 4294967295 → G' u = G u) : MapV w b n G' c := by
  obtain ⟨D, h1, h2, h3⟩ := h
  refine ⟨D, h1, h2, fun u hu => ?_⟩
  rw [e u hu]
  exact h3 u hu
end

/-- A stripe in block s: its mutex in the state st, its map in block b. -/
structure Strp (s b : Nat) (st : Int) (w : World) : Prop where
  lt : s < w.heap.size
  st : w.cell? ⟨s, 0, none⟩ = some (.int .i32 st)
  mp : w.cell? ⟨s, 2, none⟩ = some (.map (some b))
  fr : w.frozen? ⟨s, 0, none⟩ = false
theorem Strp.at_ {s b : Nat} {st : Int} {w w' : World} (h : Strp s b st w) (hb : w'.heap[s]? = w.heap[s]?) : Strp s b st w' := by
  refine ⟨?_, (World.cell?_of_block (a := ⟨s, 0, none⟩) hb).trans h.st, (World.cell?_of_block (a := ⟨s, 2, none⟩) hb).trans h.mp, (World.frozen?_of_block (a := ⟨s, 0, none⟩) hb).trans h.fr⟩
  have := Array.getElem?_eq_some_iff.1 (hb.trans (Array.getElem?_eq_getElem h.lt))
  exact this.1
theorem Strp.set {s b : Nat} {st : Int} {w : World} (h : Strp s b st w) (x : Int) : Strp s b x (w.setCell ⟨s, 0, none⟩ (.int .i32 x)) :=
  ⟨by simpa using h.lt, World.cell?_setCell_same _ _ _ h.st, (World.cell?_setCell_other _ ⟨s, 0, none⟩ ⟨s, 2, none⟩ _ (by simp)).trans h.mp, by simpa using h.fr⟩
theorem Strp.kept {s b : Nat} {st : Int} {w w' : World} {T : Nat → Prop} (h : Strp s b st w) (hk : KeptO T w w') (hT : ¬ T s) : Strp s b st w' := h.at_ (hk.block s h.lt hT)
theorem KeptO.set (w : World) (s o : Nat) (v : Value) : KeptO (fun k => k = s) w (w.setCell ⟨s, o, none⟩ v) := KeptO.of_grown (grown_setCell w s o v) (fun r hr => by cases hr; rfl)

/-- What of a message counts. -/
def keyM (m : MI) : Nat × Nat × List UInt8 := (m.u, m.f, m.b)
/-- Where a table lies: the row of its stripes, their blocks, their maps' blocks. -/
structure TR where
  r : Nat
  cap : Nat
  ss : Nat → Nat
  bb : Nat → Nat
/-- A block that belongs to the table's structure. -/
def TR.K (R : TR) (g n k : Nat) : Prop := k = g ∨ k = R.r ∨ ∃ i, i < n ∧ (k = R.ss i ∨ k = R.bb i)
/-- What the map of stripe i holds. -/
def GX (X : Nat → Option MI) (n i u : Nat) : Option Value := if u % n = i then (X u).map msV else none

structure TbX (R : TR) (g n : Nat) (S : Nat → Prop) (X : Nat → Option MI) (w : World) : Prop where
  hn : 1 ≤ n ∧ n ≤ 16
  lt : ∀ k, S k → k < w.heap.size
  K : ∀ k, R.K g n k → S k
  tc : w.cell? ⟨g, 0, none⟩ = some (.slice (some ⟨R.r, 0, none⟩) n R.cap)
  row : ∀ i, i < n → w.cell? ⟨R.r, i, none⟩ = some (.pointer (some ⟨R.ss i, 0, none⟩))
  gs : ∀ i, i < n → g ≠ R.ss i ∧ g ≠ R.bb i ∧ R.r ≠ R.ss i ∧ R.r ≠ R.bb i
  sb : ∀ i j, i < n → j < n → R.ss i ≠ R.bb j
  ss : ∀ i j, i < n → j < n → R.ss i = R.ss j → i = j
  bb : ∀ i j, i < n → j < n → R.bb i = R.bb j → i = j
  st : ∀ i, i < n → Strp (R.ss i) (R.bb i) 0 w
  mp : ∀ i, i < n → ∃ c, MapV w (R.bb i) c (GX X n i) c
  bd : ∀ u x, X u = some x → x.u = u ∧ ByAt w.heap.size w x.A x.k x.b ∧ ∀ a, x.A = some a → S a.block ∧ ¬ R.K g n a.block
section
variable {R : TR} {g n : Nat} {S S' T : Nat → Prop} {X X' : Nat → Option MI} {w w' : World}
theorem TbX.Kg (h : TbX R g n S X w) : S g := h.K _ (.inl rfl)
theorem TbX.Kr (h : TbX R g n S X w) : S R.r := h.K _ (.inr (.inl rfl))
theorem TbX.Ks (h : TbX R g n S X w) {i : Nat} (hi : i < n) : S (R.ss i) := h.K _ (.inr (.inr ⟨i, hi, .inl rfl⟩))
theorem TbX.Kb (h : TbX R g n S X w) {i : Nat} (hi : i < n) : S (R.bb i) := h.K _ (.inr (.inr ⟨i, hi, .inr rfl⟩))
theorem ByAt.keptO {A : Option Addr} {k : Nat} {l : List UInt8} (h : ByAt w.heap.size w A k l) (hk : KeptO T w w') (ho : Out T A) : ByAt w'.heap.size w' A k l := ByAt.of_sl (h.sl.keptO ho hk) h.le
/-- One stripe changed: its map, and the messages in it. -/
theorem TbX.change (i : Nat) (hi : i < n) (h : TbX R g n S X w) (hk : KeptO T w w') (hT : ∀ k, T k → S k → k = R.ss i ∨ k = R.bb i)
    (hst : Strp (R.ss i) (R.bb i) 0 w') (hm : ∃ c, MapV w' (R.bb i) c (GX X' n i) c) (hX : ∀ u, u % n ≠ i → X' u = X u)
    (hS : ∀ k, S k → S' k) (hlt : ∀ k, S' k → k < w'.heap.size)
    (hb : ∀ u x, X' u = some x → x.u = u ∧ ByAt w'.heap.size w' x.A x.k x.b ∧ ∀ a, x.A = some a → S' a.block ∧ ¬ R.K g n a.block) : TbX R g n S' X' w' := by
  have hg : ¬ T g := fun e => (hT _ e h.Kg).elim (h.gs i hi).1 (h.gs i hi).2.1
  have hr : ¬ T R.r := fun e => (hT _ e h.Kr).elim (h.gs i hi).2.2.1 (h.gs i hi).2.2.2
  refine ⟨h.hn, hlt, fun k hk => hS k (h.K k hk), hk.cell (a := ⟨g, 0, none⟩) (h.lt _ h.Kg) h.tc hg, fun j hj => hk.cell (a := ⟨R.r, j, none⟩) (h.lt _ h.Kr) (h.row j hj) hr, h.gs, h.sb, h.ss, h.bb, fun j hj => ?_, fun j hj => ?_, hb⟩
  · by_cases e : j = i
    · subst e; exact hst
    · refine (h.st j hj).kept hk fun e2 => ?_
      rcases hT _ e2 (h.Ks hj) with e3 | e3
      · exact e (h.ss _ _ hj hi e3)
      · exact h.sb _ _ hj hi e3
  · by_cases e : j = i
    · subst e; exact hm
    · obtain ⟨c, hc⟩ := h.mp j hj
      refine ⟨c, (hc.at_ (hk.block _ hc.lt fun e2 => ?_)).congr fun u _ => ?_⟩
      · rcases hT _ e2 (h.Kb hj) with e3 | e3
        · exact h.sb _ _ hi hj e3.symm
        · exact e (h.bb _ _ hj hi e3)
      · unfold GX
        by_cases e2 : u % n = j
        · rw [if_pos e2, if_pos e2, hX u (by omega)]
        · rw [if_neg e2, if_neg e2]
/-- A body stays where it lies. -/
theorem TbX.body (h : TbX R g n S X w) (hk : KeptO T w w') (hT : ∀ k, T k → S k → R.K g n k) {u : Nat} {x : MI} (hx : X u = some x) : x.u = u ∧ ByAt w'.heap.size w' x.A x.k x.b ∧ ∀ a, x.A = some a → S a.block ∧ ¬ R.K g n a.block := by
  obtain ⟨h1, h2, h3⟩ := h.bd u x hx
  exact ⟨h1, h2.keptO hk (fun a ha e => (h3 a ha).2 (hT _ e (h3 a ha).1)), h3⟩
/-- Nothing of the table changed. -/
theorem TbX.kept (h : TbX R g n S X w) (hk : KeptO T w w') (hT : ∀ k, S k → ¬ T k) : TbX R g n S X w' := by
  have hKT : ∀ k, T k → S k → R.K g n k := fun k h1 h2 => absurd h1 (hT k h2)
  have h0 : 0 < n := h.hn.1
  obtain ⟨c, hc⟩ := h.mp 0 h0
  exact h.change 0 h0 hk (fun k h1 h2 => absurd h1 (hT k h2)) ((h.st 0 h0).kept hk (hT _ (h.Ks h0))) ⟨c, hc.at_ (hk.block _ hc.lt (hT _ (h.Kb h0)))⟩ (fun _ _ => rfl) (fun _ => id) (fun k hk2 => Nat.lt_of_lt_of_le (h.lt k hk2) hk.size) fun u x hx => h.body hk hKT hx
theorem TbX.below (h : TbX R g n S X w) (hb : Below w.heap.size w w') : TbX R g n S X w' := h.kept (T := fun _ => False) ((KeptO.of_below (S := fun _ => False) hb)) fun _ _ => id
/-- What the messages count for. -/
def Like (X : Nat → Option MI) (L : List MI) : Prop := ∀ u, (X u).map keyM = (getM L u).map keyM
theorem Like.isSome {L : List MI} (h : Like X L) (u : Nat) : (X u).isSome = (getM L u).isSome := by
  have := congrArg Option.isSome (h u)
  simpa using this
/-- A map has as many entries as its stripe has messages. -/
theorem TbX.cnt {L : List MI} (h : TbX R g n S X w) (hX : Like X L) (hG : GoodM L) {i : Nat} (hi : i < n) (hi2 : i < (szM L n).length) : MapV w (R.bb i) ((szM L n)[i]) (GX X n i) ((szM L n)[i]) := by
  obtain ⟨c, hc⟩ := h.mp i hi
  obtain ⟨K, h1, h2, h3⟩ := hc.keys
  have e : (szM L n)[i] = c := by
    rw [← h2]
    refine szM_keys hG n hi2 h1 fun u => ?_
    rw [h3]
    unfold GX
    by_cases hu : u % n = i
    · rw [if_pos hu, Option.isSome_map, hX.isSome]
      refine ⟨fun h => ⟨hu, h.2⟩, fun h => ⟨?_, h.2⟩⟩
      obtain ⟨m, hm⟩ := Option.isSome_iff_exists.1 h.2
      have := hG.ok m (getM_mem hm)
      have := getM_u hm
      omega
    · rw [if_neg hu]
      simp [hu]
  rw [e]
  exact hc
/-- The table in block g: n stripes, its blocks S, it holds the list L. -/
def Tb (g n : Nat) (S : Nat → Prop) (L : List MI) (w : World) : Prop := GoodM L ∧ ∃ R X, TbX R g n S X w ∧ Like X L
/-- What behind a call is known of the table's blocks. -/
def More (S S' : Nat → Prop) (w : World) : Prop := (∀ k, S k → S' k) ∧ ∀ k, S' k → S k ∨ w.heap.size ≤ k
theorem More.refl (S : Nat → Prop) (w : World) : More S S w := ⟨fun _ => id, fun _ => .inl⟩
section
variable {L : List MI}
theorem Tb.good (h : Tb g n S L w) : GoodM L := h.1
theorem Tb.lt (h : Tb g n S L w) : ∀ k, S k → k < w.heap.size := by
  obtain ⟨_, R, X, h, _⟩ := h
  exact h.lt
theorem Tb.size (h : Tb g n S L w) : 1 ≤ n ∧ n ≤ 16 := by
  obtain ⟨_, R, X, h, _⟩ := h
  exact h.hn
theorem Tb.kept (h : Tb g n S L w) (hk : KeptO S' w w') (hS : ∀ k, S k → ¬ S' k) : Tb g n S L w' := by
  obtain ⟨h0, R, X, h, h2⟩ := h
  exact ⟨h0, R, X, h.kept hk hS, h2⟩
end
end
end Go.Proofs.Ytcfpdflaabfdkaa

namespace Go.Proofs.Ytcfpdflaabfdkaa
open Go.RowKit

set_option maxRecDepth 100000 in
set_option maxHeartbeats 1000000 in
/-- A stripe locked, a function called with it, the stripe unlocked. -/
theorem locked_any (s b F : Nat) (cs : Array Value) (w : World) (h : Strp s b 0 w) (henter : ∀ args w, (callFunc F args).run Try.prog w = .ok (.enter F args) w) (Q : World → Prop)
    (hact : Calls Try.prog F (#[.pointer (some ⟨s, 0, none⟩)] ++ cs) (w.setCell ⟨s, 0, none⟩ (.int .i32 1)) fun e w' => e = .returned (.tuple #[]) ∧ Strp s b 1 w' ∧ Q (w'.setCell ⟨s, 0, none⟩ (.int .i32 0))) :
    Calls Try.prog 43 #[.pointer (some ⟨s, 0, none⟩), .func (.func F) #[] cs] w fun e w' => e = .returned (.tuple #[]) ∧ Q w' := by
  have UL := Lib.hid (fun u W h1 h2 => unlock_deferred ⟨s, 0, none⟩ u W h1 h2)
  have LK := Lib.hid (lock_free ⟨s, 0, none⟩ w h.st h.fr)
  have HA := Lib.hid hact
  clear hact h
  go_enter_defers Try.func43, Try.ntmps43
  go_wp2_with fail
  refine LK.out.mono ?_
  rintro e w2 ⟨rfl, rfl⟩
  generalize w.setCell ⟨s, 0, none⟩ (.int .i32 1) = w1 at *
  go_wp2_with fail
  refine HA.out.mono ?_
  rintro e w3 ⟨rfl, h3, h5⟩
  go_wp2_with fail
  refine leaves_cons (f := 48) (args := #[.pointer (some ⟨s, 0, none⟩)]) (by simp) (by simp [go_sem]) ?_
  refine (UL.out .returning _ h3.st h3.fr).mono ?_
  rintro e u' w'' ⟨rfl, rfl, rfl⟩
  simp [Leaves, settle, results, Try.results43]
  exact h5

section
variable {R : TR} {g n : Nat} {S : Nat → Prop} {X : Nat → Option MI} {w : World}
set_option maxRecDepth 100000 in
theorem tof_eq (h : TbX R g n S X w) (u : Nat) (hu : u ≤ 4294967295) : Calls Try.prog 20 #[.pointer (some ⟨g, 0, none⟩), .int .u32 u] w fun e w' => e = .returned (.int .i64 ((u % n : Nat) : Int)) ∧ w = w' := by
  have hc := h.tc
  obtain ⟨hn1, hn2⟩ := h.hn
  have HR := Lib.hid (show wrap64 ((u : Int) % (n : Int)) = ((u % n : Nat) : Int) by
    rw [← Int.natCast_emod]
    have := Nat.mod_le u n
    unfold wrap64
    omega)
  clear h
  go_enter Try.func20, Try.ntmps20
  go_wp2_with fail
  go_ret
  exact ⟨ret_int HR.out, rfl⟩
set_option maxRecDepth 100000 in
theorem tstripes_eq (h : TbX R g n S X w) : Calls Try.prog 12 #[.pointer (some ⟨g, 0, none⟩)] w fun e w' => e = .returned (.int .i64 (n : Int)) ∧ w = w' := by
  have hc := h.tc
  clear h
  go_enter Try.func12, Try.ntmps12
  go_wp2_with fail
  go_ret
  exact ⟨rfl, rfl⟩

set_option maxRecDepth 100000 in
set_option maxHeartbeats 2000000 in
/-- A function called with the stripe of an identifier, which is locked. -/
theorem in_any (F : Nat) (cs : Array Value) (h : TbX R g n S X w) (u i : Nat) (hu : u ≤ 4294967295) (hi : u % n = i) (henter : ∀ args w, (callFunc F args).run Try.prog w = .ok (.enter F args) w) (Q : World → Prop)
    (hact : ∀ W, Below w.heap.size w W → Calls Try.prog F (#[.pointer (some ⟨R.ss i, 0, none⟩)] ++ cs) (W.setCell ⟨R.ss i, 0, none⟩ (.int .i32 1)) fun e w' => e = .returned (.tuple #[]) ∧ Strp (R.ss i) (R.bb i) 1 w' ∧ Q (w'.setCell ⟨R.ss i, 0, none⟩ (.int .i32 0))) :
    Calls Try.prog 35 #[.pointer (some ⟨g, 0, none⟩), .int .u32 u, .func (.func F) #[] cs] w fun e w' => e = .returned (.tuple #[]) ∧ Q w' := by
  have hin : i < n := by rw [← hi]; exact Nat.mod_lt _ h.hn.1
  have hc := h.tc
  have hr := h.row i hin
  have hk0 : (0 : Int) ≤ (i : Int) := by omega
  have hk1 : (i : Int) < (n : Int) := by omega
  have hlg := h.lt _ h.Kg
  have hlr := h.lt _ h.Kr
  have OF := Lib.hid (fun W (hb : Below w.heap.size w W) => by have := tof_eq (h.below hb) u hu; rw [hi] at this; exact this)
  have LK := Lib.hid (fun W (hb : Below w.heap.size w W) => locked_any (R.ss i) (R.bb i) F cs W ((h.below hb).st i hin) henter Q (hact W hb))
  clear hact henter h hi
  generalize R.ss i = s at *
  generalize R.bb i = b at *
  generalize R.r = r at *
  generalize R.cap = cap at *
  go_enter Try.func35, Try.ntmps35
  go_upto_region 1 with (fail)
  go_region_with (first
    | (go_at_call 20; refine (OF.out _ (by repeat (first | assumption | exact Below.refl _ _ | refine belowDrawN ?_ _ | refine belowDraw ?_))).mono ?_; rintro e w3 ⟨rfl, rfl⟩)
    | (go_at_call 43; refine (LK.out _ (by repeat (first | assumption | exact Below.refl _ _ | refine belowDrawN ?_ _ | refine belowDraw ?_))).mono ?_; rintro e w4 ⟨rfl, hQ⟩))
  all_goals
    go_wp2_with fail
    go_end0
    exact ⟨rfl, hQ⟩
end
end Go.Proofs.Ytcfpdflaabfdkaa

namespace Go.Proofs.Ytcfpdflaabfdkaa
open Go.RowKit Go.Maps

/-- A variable in a block of its own. -/
def Vb (W : World) (b : Nat) (T : TypeId) (v : Value) : Prop := W.heap[b]? = some (.cells #[v] T)
section
variable {W W' : World} {b : Nat} {T : TypeId} {v : Value}
theorem Vb.lt (h : Vb W b T v) : b < W.heap.size := (Array.getElem?_eq_some_iff.1 h).1
theorem Vb.cell (h : Vb W b T v) : W.cell? ⟨b, 0, none⟩ = some v := cell_of_row _ _ 0 _ _ _ h
theorem Vb.fz (h : Vb W b T v) : W.frozen? ⟨b, 0, none⟩ = false := by
  unfold Vb at h
  simp [World.frozen?, h]
theorem Vb.kept {S : Nat → Prop} (h : Vb W b T v) (hk : KeptO S W W') (hS : ¬ S b) : Vb W' b T v := hk.heap h hS
theorem Vb.new (w : World) (T : TypeId) (v : Value) : Vb (w.alloc (.cells #[v] T)) w.heap.size T v := heap_alloc_new _ _
theorem Vb.below (h : Vb W b T v) (hb : Below W.heap.size W W') : Vb W' b T v := (hb.block b h.lt).trans h
end
theorem Vb.set {W : World} {b : Nat} {T : TypeId} {v : Value} (h : Vb W b T v) (u : Value) : Vb (W.setCell ⟨b, 0, none⟩ u) b T u := by
  have := Joins.block_setCell (i := 0) h u
  simp at this
  exact this
/-- A message stored whole. -/
def st3 (W : World) (b : Nat) (y : MI) : World := ((W.setCell ⟨b, 0, none⟩ (.int .u32 (y.u : Int))).setCell ⟨b, 1, none⟩ (.int .u8 (y.f : Int))).setCell ⟨b, 2, none⟩ (.slice y.A y.b.length y.k)
theorem M3.st3 {W : World} {b : Nat} {m : MI} (h : M3 W b m) (y : MI) : M3 (st3 W b y) b y := by
  have h1 := Joins.block_setCell (i := 0) h (.int .u32 (y.u : Int))
  have h2 := Joins.block_setCell (i := 1) h1 (.int .u8 (y.f : Int))
  have h3 := Joins.block_setCell (i := 2) h2 (.slice y.A y.b.length y.k)
  simp at h3
  exact h3
theorem M3.st2 {W : World} {b : Nat} {m : MI} (h : M3 W b m) (A : Option Addr) (k : Nat) (l : List UInt8) (n : Nat) (hn : l.length = n) : M3 (W.setCell ⟨b, 2, none⟩ (.slice A n k)) b { m with A := A, k := k, b := l } := by
  subst hn
  have h3 := Joins.block_setCell (i := 2) h (.slice A l.length k)
  simp at h3
  exact h3
theorem st3_kept (W : World) (b : Nat) (y : MI) : KeptO (fun k => k = b) W (st3 W b y) := KeptO.of_grown (grown_set (grown_set (grown_setCell W b 0 _) 1 _) 2 _) (fun r hr => by cases hr; rfl)
theorem KeptO.drew {S : Nat → Prop} {W W' : World} (h : KeptO S W W') : KeptO S W W'.drew := ⟨h.os, h.tape, h.output, h.size, h.block⟩
theorem M3.kept {S : Nat → Prop} {W W' : World} {b : Nat} {m : MI} (h : M3 W b m) (hk : KeptO S W W') (hS : ¬ S b) : M3 W' b m := hk.heap h hS
theorem own_keptO {S : Nat → Prop} {base n : Nat} {T : TypeId} {v : Value} {xs : List Value} {W W' : World} (h : W.ownsRow base T 1 v n xs) (hk : KeptO S W W') (hS : ∀ k, S k → k < base) : W'.ownsRow base T 1 v n xs := by
  refine ⟨h.1, ?_⟩
  rcases h.2 with h1 | ⟨g, cap, cur, h1, h2, h3, h4⟩
  · exact .inl h1
  · exact .inr ⟨g, cap, cur, h1, h2, hk.heap h3 (fun e => by have := hS _ e; omega), h4⟩
theorem M3.fz {W : World} {b : Nat} {m : MI} (h : M3 W b m) (o : Nat) : W.frozen? ⟨b, o, none⟩ = false := by
  unfold M3 at h
  simp [World.frozen?, h]
def msZ : MI := ⟨0, 0, none, 0, []⟩
theorem zeroM (w : World) : (zeroValue 33).run Try.prog w = .ok (msV msZ) w := by kernel_rfl
theorem msV_getD (x : Option MI) : (x.map msV).getD (msV msZ) = msV (x.getD msZ) := by cases x <;> rfl

/-- A variable, two messages, a variable: four new blocks. -/
theorem four_new (w : World) (v0 v3 : Value) (T0 T3 : TypeId) (W : World) (hW : W = ((((w.alloc (.cells #[v0] T0)).alloc (.cells #[.int .u32 0, .int .u8 0, .slice none 0 0] 33)).alloc (.cells #[.int .u32 0, .int .u8 0, .slice none 0 0] 33)).alloc (.cells #[v3] T3))) :
    Vb W w.heap.size T0 v0 ∧ M3 W (w.heap.size + 1) msZ ∧ M3 W (w.heap.size + 1 + 1) msZ ∧ Vb W (w.heap.size + 1 + 1 + 1) T3 v3 ∧ Below w.heap.size w W ∧ W.heap.size = w.heap.size + 4 := by
  subst hW
  have b0 := below_al w (.cells #[v0] T0)
  have z0 : (w.alloc (.cells #[v0] T0)).heap.size = w.heap.size + 1 := by simp
  have x0 := Vb.new w T0 v0
  generalize w.alloc (.cells #[v0] T0) = w1 at *
  have b1 := below_al w1 (.cells #[.int .u32 0, .int .u8 0, .slice none 0 0] 33)
  have z1 : (w1.alloc (.cells #[.int .u32 0, .int .u8 0, .slice none 0 0] 33)).heap.size = w1.heap.size + 1 := by simp
  have x1 : M3 (w1.alloc (.cells #[.int .u32 0, .int .u8 0, .slice none 0 0] 33)) (w.heap.size + 1) msZ := M3.new (m := msZ) z0.symm
  generalize w1.alloc (.cells #[.int .u32 0, .int .u8 0, .slice none 0 0] 33) = w2 at *
  have b2 := below_al w2 (.cells #[.int .u32 0, .int .u8 0, .slice none 0 0] 33)
  have z2 : (w2.alloc (.cells #[.int .u32 0, .int .u8 0, .slice none 0 0] 33)).heap.size = w2.heap.size + 1 := by simp
  have x2 : M3 (w2.alloc (.cells #[.int .u32 0, .int .u8 0, .slice none 0 0] 33)) (w.heap.size + 1 + 1) msZ := M3.new (m := msZ) (by omega)
  generalize w2.alloc (.cells #[.int .u32 0, .int .u8 0, .slice none 0 0] 33) = w3 at *
  have b3 := below_al w3 (.cells #[v3] T3)
  have z3 : (w3.alloc (.cells #[v3] T3)).heap.size = w3.heap.size + 1 := by simp
  have x3 := Vb.new w3 T3 v3
  rw [show w3.heap.size = w.heap.size + 1 + 1 + 1 by omega] at x3
  generalize w3.alloc (.cells #[v3] T3) = w4 at *
  exact ⟨((x0.below b1).below b2).below b3, (x1.below b2).below b3, x2.below b3, x3, below_next b0 (below_next b1 (below_next b2 b3)), by omega⟩
section
variable {R : TR} {g n : Nat} {S S' : Nat → Prop} {X : Nat → Option MI} {w : World}
/-- A closure called with the stripe of an identifier: it writes the blocks T1 alone (the stripe's map may be among them), and leaves P, which the lock does not touch. -/
theorem in_fr (F : Nat) (cs : Array Value) (h : TbX R g n S X w) (u i : Nat) (hu : u ≤ 4294967295) (hi : u % n = i) (henter : ∀ args w, (callFunc F args).run Try.prog w = .ok (.enter F args) w) (T1 : Nat → Prop) (hT1 : ¬ T1 (R.ss i)) (P : World → Prop)
    (hact : ∀ W, KeptO (fun k => k = R.ss i) w W → Strp (R.ss i) (R.bb i) 1 W → Calls Try.prog F (#[.pointer (some ⟨R.ss i, 0, none⟩)] ++ cs) W fun e w' => e = .returned (.tuple #[]) ∧ KeptO T1 W w' ∧ P w')
    (hP : ∀ W, P W → R.ss i < W.heap.size → P (W.setCell ⟨R.ss i, 0, none⟩ (.int .i32 0))) :
    Calls Try.prog 35 #[.pointer (some ⟨g, 0, none⟩), .int .u32 u, .func (.func F) #[] cs] w fun e w' => e = .returned (.tuple #[]) ∧ P w' ∧ Strp (R.ss i) (R.bb i) 0 w' ∧ KeptO (fun k => T1 k ∨ k = R.ss i) w w' := by
  have hin : i < n := by rw [← hi]; exact Nat.mod_lt _ h.hn.1
  refine in_any F cs h u i hu hi henter (fun w' => P w' ∧ Strp (R.ss i) (R.bb i) 0 w' ∧ KeptO (fun k => T1 k ∨ k = R.ss i) w w') fun W hb => ?_
  have h0 := (h.below hb).st i hin
  have k0 : KeptO (fun k => k = R.ss i) w (W.setCell ⟨R.ss i, 0, none⟩ (.int .i32 1)) := (KeptO.of_below hb).trans (KeptO.set W (R.ss i) 0 _) fun _ e => .inl e
  refine (hact _ k0 (h0.set 1)).mono ?_
  rintro e w' ⟨rfl, hk, hp⟩
  have h1 := (h0.set 1).kept hk hT1
  refine ⟨rfl, h1, hP _ hp h1.lt, h1.set 0, ?_⟩
  exact ((k0.mono fun k e => .inr e).trans (hk.mono fun k e => .inl e) fun _ e => .inl e).trans (KeptO.set _ (R.ss i) 0 _) fun _ e => .inl (.inr e)
end
end Go.Proofs.Ytcfpdflaabfdkaa
