/- bytes.Clone: a new row of one's own. -/
import Derived.Test.YthdbbappojkmoaaGreatHc
import Derived.Test.YthdbbappojkmoaaGreatHa
import Derived.Lib.LazyBuf
import Derived.WalkKit
import Derived.Laws.LoneSync
import Derived.Laws.NewBlocks
import Derived.Defers
import Derived.RegionCalls
import Derived.Maps.OwnSet
import Derived.Maps.RangeWalk
import Derived.OpenShut
import Derived.Test.YthdbbappojkmoaaGreatHg
import Derived.Shelf.Small.Bits
namespace Go.Proofs.YthdbbappojkmoaaGreat
open Go.RowKit

theorem infoB13 : (Tryz.prog.info? 5).map (fun i => (i.zero, i.size, i.bytes)) = some (some (.int .u8 0), 1, 1) := by kernel_rfl
set_option maxRecDepth 100000 in
set_option maxHeartbeats 1000000 in
theorem bclone_any (A : Option Addr) (c n : Nat) (l : List UInt8) (hn : l.length = n) (hl : n ≤ 1000000) (w : World) (hS : ByAt w.heap.size w A c l) :
    Calls Tryz.prog 66 #[.slice A n c] w fun e w' => ∃ A' c', e = .returned (.slice A' n c') ∧ w'.ownsRow w.heap.size 5 1 (.slice A' n c') n (flatL encB l) ∧ Below w.heap.size w w' := by
  obtain ⟨i0, hi, hz0, hz1, hz2⟩ := info_parts infoB13
  have q22 := fun (w : World) (a : Option Addr) (l c : Nat) => run_eql_slice_nil (P := Tryz.prog) w 33 5 a l c Tryz.underlying33
  rcases A with _ | ad
  · obtain rfl : l = [] := by
      rcases hS.lies with h | ⟨b, off, hA, _⟩
      · exact h
      · cases hA
    obtain rfl : n = 0 := hn.symm
    clear hS hl hn
    go_enter Tryz.func66, Tryz.ntmps66
    go_wp2_with fail
    go_ret
    exact ⟨none, 0, rfl, World.ownsRow_nil _ _ _ _, Below.refl _ _⟩
  · have HS := Lib.hid (hS.here.below (below_al w (.cells #[] 5)))
    have HOE := Lib.hid (own_empty (sz := 1) (heap_alloc_new w (.cells #[] 5)) (Nat.le_refl _))
    have H63 := Lib.hid (show 0 + l.length ≤ maxLen by unfold maxLen; omega)
    have HBY := Lib.hid (show (0 + l.length) * 1 ≤ 140737488355328 by omega)
    have HB0 := Lib.hid (below_al w (.cells #[] 5))
    have HSZ := Lib.hid HB0.out.size
    subst hn
    clear hS hl
    go_enter Tryz.func66, Tryz.ntmps66
    go_wp2_with (at_builtin; refine wpList_append_sl _ rfl _ _ 33 rfl w.heap.size 5 i0 _ 1 Tryz.underlying33 hi hz0 hz1 hz2 rfl (by decide) _ 0 [] rfl HOE.out (some ad) l c rfl encB_len HS.out.sl (one_flatB l) H63.out HBY.out HSZ.out ?_; intro v2 w2 hown2 hg2)
    rw [Nat.zero_add, List.nil_append] at hown2
    obtain ⟨A2, c2, rfl⟩ := own_any hown2
    have HB2 := Lib.hid (HB0.out.grown hg2 HSZ.out (fun kk hkk => (HOE.out.lt kk hkk).1))
    have HO := Lib.hid hown2
    clear hown2 hg2
    go_ret
    exact ⟨A2, c2, rfl, HO.out, HB2.out⟩
end Go.Proofs.YthdbbappojkmoaaGreat

namespace Go.Proofs.YthdbbappojkmoaaGreat
open Go.RowKit

theorem disable (w : World) : (callFunc 120 #[]).run Tryz.prog w = .ok (.value (.tuple #[])) w := run_call_mark0 Tryz.func120 (by kernel_rfl) (by kernel_rfl) (by kernel_rfl) .disable (by kernel_rfl) w
theorem enable (w : World) : (callFunc 122 #[]).run Tryz.prog w = .ok (.value (.tuple #[])) w := run_call_mark0 Tryz.func122 (by kernel_rfl) (by kernel_rfl) (by kernel_rfl) .enable (by kernel_rfl) w
theorem acquire (a : Addr) (w : World) : (callFunc 123 #[.pointer (some a)]).run Tryz.prog w = .ok (.value (.tuple #[])) w := run_call_marked Tryz.func123 (by kernel_rfl) (by kernel_rfl) (by kernel_rfl) .acquire (by kernel_rfl) a w
theorem releaseMerge (a : Addr) (w : World) : (callFunc 125 #[.pointer (some a)]).run Tryz.prog w = .ok (.value (.tuple #[])) w := run_call_marked Tryz.func125 (by kernel_rfl) (by kernel_rfl) (by kernel_rfl) .releaseMerge (by kernel_rfl) a w

set_option maxRecDepth 100000 in
/-- '(*sync.Mutex).Unlock', entered as a deferred call, the lock held and nobody waiting: state 0. -/
theorem unlock_deferred (a : Addr) (u : FrameMode) (w : World) (hc : w.cell? a = some (.int .i32 1)) (hz : w.frozen? a = false) :
    CallsD Tryz.prog 103 #[.pointer (some a)] u w fun e u' w' => u' = u ∧ (e = .returned (.tuple #[]) ∧ w' = w.setCell a (.int .i32 0)) := by
  have hd := disable
  have he := enable
  have hr := releaseMerge
  have hadd := run_call_add (P := Tryz.prog) Tryz.func126 (by kernel_rfl) (by kernel_rfl) (by kernel_rfl) .i32 (by kernel_rfl) (y := -1) (s := 0) hc hz (by simp [go_sem]; rfl)
  have hcv := run_convert_to_unsafe (P := Tryz.prog) (src := 182) (dst := 186) Tryz.underlying182 Tryz.underlying186 (by kernel_rfl) hc
  go_enter_d Tryz.func103, Tryz.ntmps103
  go_wp2
  go_end0
  go_wp2
  go_end0
  exact ⟨rfl, rfl⟩

set_option maxRecDepth 100000 in
/-- '(*sync.Mutex).Lock', the lock free: state 1. -/
theorem lock_free (a : Addr) (w : World) (hc : w.cell? a = some (.int .i32 0)) (hz : w.frozen? a = false) :
    Calls Tryz.prog 102 #[.pointer (some a)] w fun e w' => e = .returned (.tuple #[]) ∧ w' = w.setCell a (.int .i32 1) := by
  have hd := disable
  have he := enable
  have ha := acquire
  have hcas := run_call_cas_hit (P := Tryz.prog) Tryz.func121 (by kernel_rfl) (by kernel_rfl) (by kernel_rfl) .i32 (by kernel_rfl) (y := 1) hc hz
  have hc' : (w.setCell a (.int .i32 1)).cell? a = some (.int .i32 1) := World.cell?_setCell_same w a _ hc
  have hcv := run_convert_to_unsafe (P := Tryz.prog) (src := 182) (dst := 186) Tryz.underlying182 Tryz.underlying186 (by kernel_rfl) hc'
  go_enter Tryz.func102, Tryz.ntmps102
  go_wp2
  first | go_end0 | (simp only [Exit.inBlock, Exit.then]; refine bodyPost_ret (results_none rfl _ _ _) rfl ?_) | refine bodyPost_ret (results_none rfl _ _ _) rfl ?_
  go_wp2
  go_end0
  exact ⟨rfl, rfl⟩
end Go.Proofs.YthdbbappojkmoaaGreat

namespace Go.Proofs.YthdbbappojkmoaaGreat
open Go.RowKit Go.Maps Go.ChangeMaps

theorem lawU : Keyed Tryz.prog 27 := int_keyed Tryz.underlying27
theorem wfU {u : Nat} (h : u ≤ 4294967295) : (Lit.int .u32 (u : Int)).wf = true := by
  simp [Lit.wf, IntKind.min, IntKind.max, IntKind.bits, IntKind.signed]
  omega
theorem keyU {u : Nat} (h : u ≤ 4294967295) : keyOf Tryz.prog 27 (.int .u32 (u : Int)) = some (.int .u32 (u : Int)) := keyOf_int_mk Tryz.underlying27 (wfU h)
/-- Each element reads as itself. -/
def heldR : Value → Option (DataW Value × List MemPlace) := fun v => some (.held v, [])
/-- What the datum says at each identifier. -/
def SeenV (D : DataW Value) (G : Nat → Option Value) : Prop :=
  ∀ u : Nat, u ≤ 4294967295 → Maps.has D (.int .u32 (u : Int)) = (G u).isSome ∧ ∀ v, G u = some v → ∀ z, D.atKey (.int .u32 (u : Int)) z = .held v
theorem SeenV.put {D : DataW Value} {G : Nat → Option Value} (h : SeenV D G) (hD : IsMap D) {u : Nat} (hu : u ≤ 4294967295) (v : Value) : SeenV (D.put (.int .u32 (u : Int)) (.held v)) (fun x => if x = u then some v else G x) := by
  intro x hx
  by_cases e : x = u
  · subst e
    simp only [if_true]
    exact ⟨has_put_same hD (by simp [WideAt.IsKeyLit]) _, fun y hy z => by cases hy; exact atKey_put_same hD (by simp [WideAt.IsKeyLit]) _ _⟩
  · have hne : (Lit.int .u32 (x : Int)) ≠ Lit.int .u32 (u : Int) := by simp; omega
    simp only [if_neg e]
    refine ⟨(has_put_other hne _).trans (h x hx).1, fun y hy z => (atKey_put_other hne _ _).trans ((h x hx).2 y hy z)⟩
theorem SeenV.del {D : DataW Value} {G : Nat → Option Value} (h : SeenV D G) (u : Nat) : SeenV (D.del (.int .u32 (u : Int))) (fun x => if x = u then none else G x) := by
  intro x hx
  by_cases e : x = u
  · subst e
    simp only [if_true]
    exact ⟨has_del_same, fun y hy => by cases hy⟩
  · have hne : (Lit.int .u32 (x : Int)) ≠ Lit.int .u32 (u : Int) := by simp; omega
    simp only [if_neg e]
    refine ⟨has_del_other hne |>.trans (h x hx).1, fun y hy z => (atKey_del_other hne _).trans ((h x hx).2 y hy z)⟩

/-- The map in block b, of at most n entries: G what it holds, c how many. -/
def MapV (w : World) (b n : Nat) (G : Nat → Option Value) (c : Nat) : Prop :=
  ∃ D, w.ownsMap Tryz.prog 27 heldR b n D ∧ Maps.size D = c ∧ SeenV D G
section
variable {w w' : World} {b n c : Nat} {G : Nat → Option Value} {t e : TypeId}
theorem MapV.made (w : World) : MapV (w.alloc (.map #[] 0)) w.heap.size 0 (fun _ => none) 0 :=
  ⟨_, World.ownsMap_made _ _ _ _, rfl, fun u _ => ⟨rfl, fun v hv => by cases hv⟩⟩
theorem MapV.lt (h : MapV w b n G c) : b < w.heap.size := by
  obtain ⟨D, h, _⟩ := h
  exact h.lt
theorem MapV.le (h : MapV w b n G c) : c ≤ n := by
  obtain ⟨D, h, rfl, _⟩ := h
  exact h.size_le
theorem MapV.mono (h : MapV w b n G c) {m : Nat} (hm : n ≤ m) : MapV w b m G c := by
  obtain ⟨D, h, r⟩ := h
  exact ⟨D, h.mono hm, r⟩
theorem MapV.kept {row : Option Nat} (h : MapV w b n G c) (hg : w.grownBy w' row) (hne : some b ≠ row) : MapV w' b n G c := by
  obtain ⟨D, h, r⟩ := h
  exact ⟨D, h.kept hg hne, r⟩
theorem MapV.below (h : MapV w b n G c) (hb : Below w.heap.size w w') : MapV w' b n G c :=
  h.kept (row := none) ⟨hb.os, hb.tape, hb.output, hb.size, fun k hk _ => hb.block k hk⟩ (by simp)
set_option maxRecDepth 100000 in
/-- 'v, ok := m[u]'. -/
theorem MapV.look (h : MapV w b n G c) (ht : Tryz.prog.underlying t = some (.map 27 e)) {z : Value} (hz : (zeroValue e).run Tryz.prog w = .ok z w) {u : Nat} (hu : u ≤ 4294967295) :
    (Instr.lookup t (.map (some b)) (.int .u32 (u : Int)) true).run Tryz.prog w = .ok (.tuple #[(G u).getD z, .bool (G u).isSome]) w := by
  obtain ⟨D, h, _, hs⟩ := h
  obtain ⟨v, ps, hrun, hv⟩ := h.look_ok lawU ht hz (zd := .held z) (zp := []) rfl (keyU hu)
  obtain ⟨h1, h2⟩ := hs u hu
  rw [hrun, h1]
  cases hG : G u with
  | none =>
    rw [atKey_of_not_has (by rw [h1, hG]; rfl)] at hv
    simp only [heldR, Option.some.injEq, Prod.mk.injEq, DataW.held.injEq] at hv
    rw [hv.1]
    rfl
  | some y =>
    rw [h2 y hG] at hv
    simp only [heldR, Option.some.injEq, Prod.mk.injEq, DataW.held.injEq] at hv
    rw [hv.1]
    rfl
set_option maxRecDepth 100000 in
/-- 'm[u]'. -/
theorem MapV.look1 (h : MapV w b n G c) (ht : Tryz.prog.underlying t = some (.map 27 e)) {z : Value} (hz : (zeroValue e).run Tryz.prog w = .ok z w) {u : Nat} (hu : u ≤ 4294967295) :
    (Instr.lookup t (.map (some b)) (.int .u32 (u : Int)) false).run Tryz.prog w = .ok ((G u).getD z) w := by
  obtain ⟨D, h, _, hs⟩ := h
  obtain ⟨v, ps, hrun, hv⟩ := h.lookup lawU ht hz (zd := .held z) (zp := []) rfl (keyU hu)
  obtain ⟨h1, h2⟩ := hs u hu
  rw [hrun]
  cases hG : G u with
  | none =>
    rw [atKey_of_not_has (by rw [h1, hG]; rfl)] at hv
    simp only [heldR, Option.some.injEq, Prod.mk.injEq, DataW.held.injEq] at hv
    rw [hv.1]
    rfl
  | some y =>
    rw [h2 y hG] at hv
    simp only [heldR, Option.some.injEq, Prod.mk.injEq, DataW.held.injEq] at hv
    rw [hv.1]
    rfl
set_option maxRecDepth 100000 in
/-- 'm[u] = v'. -/
theorem MapV.store (h : MapV w b n G c) (ht : Tryz.prog.underlying t = some (.map 27 e)) (hn : n < maxLen) {u : Nat} (hu : u ≤ 4294967295) (v : Value) :
    ∃ w', (Instr.mapUpdate t (.map (some b)) (.int .u32 (u : Int)) v).run Tryz.prog w = .ok () w' ∧ MapV w' b (n + 1) (fun x => if x = u then some v else G x) (if (G u).isSome then c else c + 1) ∧ w.grownBy w' (some b) := by
  obtain ⟨D, h, hc, hs⟩ := h
  obtain ⟨w', hrun, h2, h3⟩ := h.update lawU ht hn (keyU hu) (d := .held v) (ps := []) rfl
  refine ⟨w', hrun, ⟨_, h2, ?_, hs.put h.isMap hu v⟩, h3⟩
  rw [size_put (h.tidy lawU), (hs u hu).1, hc]
set_option maxRecDepth 100000 in
/-- 'delete(m, u)'. -/
theorem MapV.drop (h : MapV w b n G c) (ht : Tryz.prog.underlying t = some (.map 27 e)) {u : Nat} (hu : u ≤ 4294967295) (ty : TypeId) :
    ∃ w', (Builtin.delete_ #[t, 27] ty #[.map (some b), .int .u32 (u : Int)]).run Tryz.prog w = .ok (.tuple #[]) w' ∧ MapV w' b n (fun x => if x = u then none else G x) (if (G u).isSome then c - 1 else c) ∧ w.grownBy w' (some b) := by
  obtain ⟨D, h, hc, hs⟩ := h
  obtain ⟨w', hrun, h2, h3⟩ := h.drop lawU ht (keyU hu) ty
  refine ⟨w', hrun, ⟨_, h2, ?_, hs.del u⟩, h3.grown⟩
  have := size_del (h.tidy lawU) (k := .int .u32 (u : Int))
  rw [(hs u hu).1, hc] at this
  split at this <;> rename_i e
  · rw [if_pos e]; omega
  · rw [if_neg e]; omega
set_option maxRecDepth 100000 in
/-- 'len(m)'. -/
theorem MapV.len (h : MapV w b n G c) (ht : Tryz.prog.underlying t = some (.map 27 e)) (ty : TypeId) : (Builtin.len_ #[t] ty #[.map (some b)]).run Tryz.prog w = .ok (.int .i64 (c : Int)) w := by
  obtain ⟨D, h, rfl, _⟩ := h
  exact h.len ht ty
set_option maxRecDepth 100000 in
/-- Its identifiers, each named once. -/
theorem MapV.keys (h : MapV w b n G c) : ∃ K : List Nat, K.Nodup ∧ K.length = c ∧ ∀ u, u ∈ K ↔ u ≤ 4294967295 ∧ (G u).isSome := by
  obtain ⟨D, h, rfl, hs⟩ := h
  have hkw := h
  obtain ⟨es, clock, _, F, _, hD⟩ := hkw
  obtain ⟨l, rfl, hp, hk⟩ := h.entries lawU
  have hint : ∀ p ∈ l, ∃ u : Nat, u ≤ 4294967295 ∧ p.1 = .int .u32 (u : Int) := by
    intro p hpm
    simp only [DataW.map.injEq] at hD
    rw [hD] at hpm
    obtain ⟨x, hx, rfl⟩ := List.mem_map.1 (mem_sorted.1 hpm)
    obtain ⟨y, hy⟩ := F.reads x hx
    rw [WideElems.rg_of hy]
    obtain ⟨a, _, h2, h3⟩ := keyOf_int_inv Tryz.underlying27 (WideElems.rd_key hy)
    have := bounds_u32 h3
    exact ⟨a.toNat, by omega, by rw [h2]; congr 1; omega⟩
  have hsz : Maps.size (DataW.map l) = l.length := rfl
  refine ⟨l.map fun p => match p.1 with | .int _ a => a.toNat | _ => 0, ?_, by rw [List.length_map, hsz], fun u => ?_⟩
  · rw [List.nodup_iff_pairwise_ne, List.pairwise_map]
    refine hp.imp_of_mem fun {p q} hpm hqm hne => ?_
    obtain ⟨a, _, ha⟩ := hint p hpm
    obtain ⟨b, _, hb⟩ := hint q hqm
    rw [ha, hb] at hne ⊢
    intro e
    apply hne
    simp only [Int.toNat_natCast] at e
    rw [e]
  · rw [List.mem_map]
    constructor
    · rintro ⟨p, hpm, rfl⟩
      obtain ⟨a, ha1, ha⟩ := hint p hpm
      rw [ha]
      show (a : Int).toNat ≤ 4294967295 ∧ (G (a : Int).toNat).isSome
      rw [Int.toNat_natCast]
      refine ⟨ha1, ?_⟩
      rw [← (hs a ha1).1, has_eq, List.any_eq_true]
      exact ⟨p, hpm, by rw [ha]; exact WideAt.sameKey_self (by simp [WideAt.IsKeyLit])⟩
    · rintro ⟨h1, h2⟩
      rw [← (hs u h1).1, has_eq, List.any_eq_true] at h2
      obtain ⟨p, hpm, hpk⟩ := h2
      refine ⟨p, hpm, ?_⟩
      rw [WideAt.sameKey_eq hpk]
      exact Int.toNat_natCast u

/-- Block r ranges over the map in block b, which holds G; left: what is still to come, cnt how many. -/
def MapR (w : World) (b r n : Nat) (G : Nat → Option Value) (c : Nat) (left : Nat → Bool) (cnt : Nat) : Prop :=
  ∃ D L, w.ranges Tryz.prog 27 heldR b r n D L cnt ∧ Maps.size D = c ∧ SeenV D G ∧ ∀ u : Nat, u ≤ 4294967295 → L (.int .u32 (u : Int)) = left u
/-- 'range m'. -/
theorem MapV.range (h : MapV w b n G c) (ht : Tryz.prog.underlying t = some (.map 27 e)) :
    ∃ w', (Instr.range t (.map (some b))).run Tryz.prog w = .ok (.pointer (some ⟨w.heap.size, 0, none⟩)) w' ∧ MapR w' b w.heap.size n G c (fun u => (G u).isSome) c ∧ w.grownBy w' none ∧ w'.heap.size = w.heap.size + 1 := by
  obtain ⟨D, h, rfl, hs⟩ := h
  obtain ⟨w', h1, h2, h3, h4⟩ := h.range lawU ht
  exact ⟨w', h1, ⟨D, _, h2, rfl, hs, fun u hu => (hs u hu).1⟩, h3, h4⟩
section
variable {r cnt : Nat} {left : Nat → Bool}
theorem MapR.map (h : MapR w b r n G c left cnt) : MapV w b n G c := by
  obtain ⟨D, L, h, hc, hs, _⟩ := h
  exact ⟨D, h.owns, hc, hs⟩
theorem MapR.left_eq (h : MapR w b r n G c left cnt) : w.rangeLeft b r = cnt := by
  obtain ⟨D, L, h, _⟩ := h
  exact h.left_eq
theorem MapR.lt (h : MapR w b r n G c left cnt) : r < w.heap.size := by
  obtain ⟨D, L, h, _⟩ := h
  exact h.lt
theorem MapR.ne (h : MapR w b r n G c left cnt) : r ≠ b := by
  obtain ⟨D, L, h, _⟩ := h
  exact h.ne
theorem MapR.kept {row : Option Nat} (h : MapR w b r n G c left cnt) (hg : w.grownBy w' row) (hb : some b ≠ row) (hr : some r ≠ row) : MapR w' b r n G c left cnt := by
  obtain ⟨D, L, h, k⟩ := h
  exact ⟨D, L, h.kept hg hb hr, k⟩
theorem MapR.below (h : MapR w b r n G c left cnt) (hb : Below w.heap.size w w') : MapR w' b r n G c left cnt :=
  h.kept (row := none) ⟨hb.os, hb.tape, hb.output, hb.size, fun k hk _ => hb.block k hk⟩ (by simp) (by simp)
set_option maxRecDepth 100000 in
/-- The next of a range: nothing is left, or some identifier that is left, with its element. -/
theorem MapR.next (h : MapR w b r n G c left cnt) (ty : TypeId) :
    (cnt = 0 ∧ (∀ u, u ≤ 4294967295 → left u = false) ∧ (Instr.next (.pointer (some ⟨r, 0, none⟩)) false ty).run Tryz.prog w = .ok (.tuple #[.bool false]) w) ∨
    ∃ (u : Nat) (v : Value) (w' : World) (cnt' : Nat), u ≤ 4294967295 ∧ left u = true ∧ G u = some v ∧ (Instr.next (.pointer (some ⟨r, 0, none⟩)) false ty).run Tryz.prog w = .ok (.tuple #[.bool true, .int .u32 (u : Int), v]) w' ∧
      MapR w' b r n G c (fun x => left x && !decide (x = u)) cnt' ∧ cnt' < cnt ∧ w.grownBy w' (some r) ∧ w'.heap.size = w.heap.size ∧ (Instr.entry (.pointer (some ⟨r, 0, none⟩))).run Tryz.prog w' = .ok (.tuple #[.int .u32 (u : Int), v]) w' := by
  obtain ⟨D, L, h, hc, hs, hl⟩ := h
  rcases h.next lawU ty with ⟨h0, h1, h2⟩ | ⟨key, v, kl, y, w', cnt', hk, hL, hR, hat, hrun, hr', hlt, hg, hsz, hen⟩
  · exact .inl ⟨h0, fun u hu => (hl u hu).symm.trans (h1 _), h2⟩
  · obtain ⟨a, rfl, rfl, hw⟩ := keyOf_int_inv Tryz.underlying27 hk
    have hb := bounds_u32 hw
    obtain ⟨u, rfl⟩ : ∃ u : Nat, a = u := ⟨a.toNat, by omega⟩
    have hu : u ≤ 4294967295 := by omega
    simp only [heldR, Option.some.injEq] at hR
    subst hR
    have hh := has_true_of_atKey hat
    obtain ⟨x, hx⟩ := Option.isSome_iff_exists.1 ((hs u hu).1.symm.trans hh)
    have hxv := ((hs u hu).2 x hx .nil).symm.trans (hat .nil)
    simp only [DataW.held.injEq] at hxv
    subst hxv
    refine .inr ⟨u, x, w', cnt', hu, (hl u hu).symm.trans hL, hx, hrun, ⟨D, _, hr', hc, hs, fun z hz => ?_⟩, hlt, hg, hsz, hen⟩
    show (L (.int .u32 (z : Int)) && !(Lit.int .u32 (z : Int)).sameKey (.int .u32 (u : Int))) = _
    rw [hl z hz]
    by_cases e : z = u
    · subst e
      rw [WideAt.sameKey_self (by simp [WideAt.IsKeyLit])]
      simp
    · rw [sameKey_ne (by simp; omega)]
      simp [e]
end
end
end Go.Proofs.YthdbbappojkmoaaGreat

namespace Go.Proofs.YthdbbappojkmoaaGreat
open Go.RowKit

/-- A message where it lies: identifier, flags, and its body with the slice that holds it. -/
structure MI where
  u : Nat
  f : Nat
  A : Option Addr
  k : Nat
  b : List UInt8
def encM (m : MI) : List Value := [.int .u32 (m.u : Int), .int .u8 (m.f : Int), .slice m.A m.b.length m.k]
def msV (m : MI) : Value := .agg #[.int .u32 (m.u : Int), .int .u8 (m.f : Int), .slice m.A m.b.length m.k]
theorem encM_len (m : MI) : (encM m).length = 3 := rfl
theorem encM_one (m : MI) : ∀ v ∈ encM m, v.oneCell' = true := by
  intro v hv
  simp [encM] at hv
  rcases hv with rfl | rfl | rfl <;> rfl
theorem one_flatM (l : List MI) : ∀ u ∈ flatL encM l, u.oneCell' = true := by
  intro u hu
  obtain ⟨r, _, hr⟩ := List.mem_flatMap.1 hu
  exact encM_one r u hr
theorem infoM : (Tryz.prog.info? 52).map (fun i => (i.zero, i.size, i.bytes)) = some (some (.agg #[.int .u32 0, .int .u8 0, .slice none 0 0]), 3, 32) := by kernel_rfl
theorem SlAt.msg {w : World} {A : Option Addr} {l : List MI} (h : SlAt encM 3 w A l) {j : Nat} (hj : j < l.length) :
    ∃ b off, A = some ⟨b, off, none⟩ ∧ b < w.heap.size ∧ w.cell? ⟨b, off + j * 3, none⟩ = some (.int .u32 (l[j].u : Int)) ∧ w.cell? ⟨b, off + j * 3 + 1, none⟩ = some (.int .u8 (l[j].f : Int)) ∧ w.cell? ⟨b, off + j * 3 + 2, none⟩ = some (.slice l[j].A l[j].b.length l[j].k) := by
  obtain ⟨b, off, hA, hb, hc⟩ := h.at_ hj
  exact ⟨b, off, hA, hb, by simpa using hc 0 _ rfl, hc 1 _ rfl, hc 2 _ rfl⟩
theorem loadM {W : World} {b o : Nat} {x y : Int} {A : Option Addr} {n k : Nat} (h0 : W.cell? ⟨b, o, none⟩ = some (.int .u32 x)) (h1 : W.cell? ⟨b, o + 1, none⟩ = some (.int .u8 y)) (h2 : W.cell? ⟨b, o + 2, none⟩ = some (.slice A n k)) :
    (Instr.loadAt 52 (.pointer (some ⟨b, o, none⟩))).run Tryz.prog W = .ok (.agg #[.int .u32 x, .int .u8 y, .slice A n k]) W := by
  simp [go_sem, h0, h1, h2]
theorem cells3 {W : World} {g : Nat} {a0 a1 a2 : Value} {T : TypeId} {z : Nat × Nat} (h : W.heap[g]? = some (.cells #[a0, a1, a2] T z)) : W.cell? ⟨g, 0, none⟩ = some a0 ∧ W.cell? ⟨g, 1, none⟩ = some a1 ∧ W.cell? ⟨g, 2, none⟩ = some a2 :=
  ⟨cell_of_row _ _ 0 _ _ _ h, cell_of_row _ _ 1 _ _ _ h, cell_of_row _ _ 2 _ _ _ h⟩

/-- The index of the first message with an identifier, or -1. -/
def fdI : List MI → Nat → Int
  | [], _ => -1
  | m :: l, u => if m.u = u then 0 else let r := fdI l u; if r < 0 then -1 else r + 1
theorem fdI_no {l : List MI} {u : Nat} (h : ∀ m ∈ l, m.u ≠ u) : fdI l u = -1 := by
  induction l with
  | nil => rfl
  | cons m l ih =>
    unfold fdI
    rw [if_neg (h m (List.mem_cons_self ..)), ih fun m hm => h m (List.mem_cons_of_mem _ hm)]
    rfl
theorem fdI_yes {l : List MI} {u : Nat} : ∀ {k : Nat} (hk : k < l.length), (∀ j (hj : j < k), (l[j]'(Nat.lt_trans hj hk)).u ≠ u) → l[k].u = u → fdI l u = (k : Int) := by
  induction l with
  | nil => intro k hk; simp at hk
  | cons m l ih =>
    intro k hk h1 h2
    cases k with
    | zero => unfold fdI; rw [if_pos (show m.u = u from h2)]; rfl
    | succ k =>
      have h0 : m.u ≠ u := h1 0 (Nat.succ_pos _)
      have hk' : k < l.length := by simpa using hk
      have hr := ih hk' (fun j hj => h1 (j + 1) (Nat.succ_lt_succ hj)) h2
      unfold fdI
      rw [if_neg h0]
      simp only [hr]
      rw [if_neg (by omega)]
      rfl
theorem fdI_cases (l : List MI) (u : Nat) : (fdI l u = -1 ∧ ∀ m ∈ l, m.u ≠ u) ∨ ∃ k, ∃ hk : k < l.length, fdI l u = (k : Int) ∧ l[k].u = u ∧ ∀ j (hj : j < k), (l[j]'(Nat.lt_trans hj hk)).u ≠ u := by
  induction l with
  | nil => exact .inl ⟨rfl, fun m hm => absurd hm (by simp)⟩
  | cons m l ih =>
    by_cases h : m.u = u
    · exact .inr ⟨0, by simp, by unfold fdI; rw [if_pos h]; rfl, h, fun j hj => absurd hj (Nat.not_lt_zero _)⟩
    · rcases ih with ⟨h1, h2⟩ | ⟨k, hk, h1, h2, h3⟩
      · refine .inl ⟨?_, ?_⟩
        · unfold fdI; rw [if_neg h, h1]; rfl
        · intro x hx
          rcases List.mem_cons.1 hx with rfl | hx
          · exact h
          · exact h2 x hx
      · refine .inr ⟨k + 1, by simpa using hk, ?_, h2, ?_⟩
        · unfold fdI
          rw [if_neg h]
          simp only [h1]
          rw [if_neg (by omega)]
          rfl
        · intro j hj
          cases j with
          | zero => exact h
          | succ j => exact h3 j (Nat.lt_of_succ_lt_succ hj)
end Go.Proofs.YthdbbappojkmoaaGreat

namespace Go.Proofs.YthdbbappojkmoaaGreat
open Go.RowKit

/-- A message in the block b. -/
def M3 (W : World) (b : Nat) (m : MI) : Prop := W.heap[b]? = some (.cells #[.int .u32 (m.u : Int), .int .u8 (m.f : Int), .slice m.A m.b.length m.k] 52)
section
variable {W W' : World} {b : Nat} {m : MI}
theorem M3.new (h : b = W.heap.size) : M3 (W.alloc (.cells #[.int .u32 (m.u : Int), .int .u8 (m.f : Int), .slice m.A m.b.length m.k] 52)) b m := heap_new1 _ _ h
theorem M3.lt (h : M3 W b m) : b < W.heap.size := (Array.getElem?_eq_some_iff.1 h).1
theorem M3.below (h : M3 W b m) (hb : Below W.heap.size W W') : M3 W' b m := (hb.block b h.lt).trans h
theorem M3.grown {row : Option Nat} (h : M3 W b m) (hg : W.grownBy W' row) (hne : some b ≠ row) : M3 W' b m := (hg.block b h.lt hne).trans h
theorem M3.draw (h : M3 W b m) : M3 W.drew b m := h
theorem M3.past (h : M3 W b m) (o : Obj) : M3 (W.alloc o) b m := h.below (below_al W o)
theorem M3.cells (h : M3 W b m) : W.cell? ⟨b, 0, none⟩ = some (.int .u32 (m.u : Int)) ∧ W.cell? ⟨b, 1, none⟩ = some (.int .u8 (m.f : Int)) ∧ W.cell? ⟨b, 2, none⟩ = some (.slice m.A m.b.length m.k) := cells3 h
theorem M3.sl (h : M3 W b m) : SlAt encM 3 W (some ⟨b, 0, none⟩) [m] := by
  refine .inr ⟨b, 0, rfl, h.lt, fun j y hj i v hi => ?_⟩
  obtain rfl : j = 0 := by
    have := (List.getElem?_eq_some_iff.1 hj).1
    simpa using this
  obtain rfl : m = y := by simpa using hj
  obtain ⟨h0, h1, h2⟩ := h.cells
  match i, hi with
  | 0, hi => obtain rfl : _ = v := by simpa [encM] using hi
             simpa using h0
  | 1, hi => obtain rfl : _ = v := by simpa [encM] using hi
             simpa using h1
  | 2, hi => obtain rfl : _ = v := by simpa [encM] using hi
             simpa using h2
end
theorem keepM {a w : World} {b : Nat} {v0 v1 v2 : Value} (hb : b < a.heap.size) (h0 : a.cell? ⟨b, 0, none⟩ = some v0) (h1 : a.cell? ⟨b, 1, none⟩ = some v1) (h2 : a.cell? ⟨b, 2, none⟩ = some v2) (h : Below a.heap.size a w) :
    w.cell? ⟨b, 0, none⟩ = some v0 ∧ w.cell? ⟨b, 1, none⟩ = some v1 ∧ w.cell? ⟨b, 2, none⟩ = some v2 ∧ Below a.heap.size a w :=
  ⟨(h.cell (p := ⟨b, 0, none⟩) hb).trans h0, (h.cell (p := ⟨b, 1, none⟩) hb).trans h1, (h.cell (p := ⟨b, 2, none⟩) hb).trans h2, h⟩

/-- What Put gives. -/
def putM (l : List MI) (m : MI) : List MI × Int := if m.u = 0 ∨ 31 < m.f ∨ 65536 < m.b.length then (l, 2) else if 0 ≤ fdI l m.u then (l, 8) else (l ++ [m], 0)

def remM (l : List MI) (u : Nat) : List MI := l.filter fun m => !decide (m.u = u)
theorem remM_take {l : List MI} {u k : Nat} (hk : k < l.length) : remM (l.take (k + 1)) u = if l[k].u = u then remM (l.take k) u else remM (l.take k) u ++ [l[k]] := by
  unfold remM
  rw [List.take_succ_eq_append_getElem hk, List.filter_append]
  by_cases h : l[k].u = u
  · rw [if_pos h, List.filter_cons_of_neg (by simpa using h), List.filter_nil, List.append_nil]
  · rw [if_neg h, List.filter_cons_of_pos (by simpa using h), List.filter_nil]
def wiM (l : List MI) (f : Nat) : List Nat := (l.filter fun m => decide (m.f &&& f = f)).map (·.u)
theorem wiM_take {l : List MI} {f k : Nat} (hk : k < l.length) : wiM (l.take (k + 1)) f = if l[k].f &&& f = f then wiM (l.take k) f ++ [l[k].u] else wiM (l.take k) f := by
  unfold wiM
  rw [List.take_succ_eq_append_getElem hk, List.filter_append]
  by_cases h : l[k].f &&& f = f
  · rw [if_pos h, List.filter_cons_of_pos (by simpa using h), List.filter_nil, List.map_append]
    rfl
  · rw [if_neg h, List.filter_cons_of_neg (by simpa using h), List.filter_nil, List.append_nil]
theorem wiM_len (l : List MI) (f : Nat) : (wiM l f).length ≤ l.length := by
  unfold wiM
  rw [List.length_map]
  exact List.length_filter_le _ _
theorem cells_one {W : World} {b : Nat} (hb : b = W.heap.size) (x : Value) (T : TypeId) : ∀ (j : Nat) (u : Value), [x][j]? = some u → (W.alloc (.cells #[x] T)).cell? ((⟨b, 0, none⟩ : Addr).add j) = some u := by
  subst hb
  intro j u hj
  rw [Addr.add_lit]
  match j, hj with
  | 0, hj => simp at hj; subst hj; simp
/-- How many messages each stripe holds. -/
def szM (l : List MI) (n : Nat) : List Nat := (List.range n).map fun i => (l.filter fun m => decide (m.u % n = i)).length
theorem szM_len (l : List MI) (n : Nat) : (szM l n).length = n := by simp [szM]
theorem szM_at (l : List MI) (n : Nat) {i : Nat} (h : i < (szM l n).length) : (szM l n)[i] = (l.filter fun m => decide (m.u % n = i)).length := by simp [szM]
theorem szM_nil (n : Nat) : szM [] n = List.replicate n 0 := by
  apply List.ext_getElem
  · simp [szM]
  · intro i h1 h2
    rw [szM_at]
    simp
theorem szM_take {l : List MI} {n k j : Nat} (hk : k < l.length) (hj : l[k].u % n = j) (hjn : j < (szM (l.take k) n).length) : szM (l.take (k + 1)) n = (szM (l.take k) n).set j ((szM (l.take k) n)[j] + 1) := by
  apply List.ext_getElem
  · rw [List.length_set, szM_len, szM_len]
  · intro i h1 h2
    have e1 := szM_at (l.take k) n (i := i) (by rw [szM_len]; rw [szM_len] at h1; exact h1)
    have e2 := szM_at (l.take k) n hjn
    rw [szM_at, List.getElem_set, List.take_succ_eq_append_getElem hk, List.filter_append, List.length_append]
    by_cases hij : j = i
    · subst hij
      rw [if_pos rfl, e2, List.filter_cons_of_pos (by simpa using hj)]
      rfl
    · rw [if_neg hij, e1, List.filter_cons_of_neg (by simpa using fun e => hij (hj.symm.trans e))]
      rfl
theorem szM_le (l : List MI) (n : Nat) {i : Nat} (h : i < (szM l n).length) : (szM l n)[i] ≤ l.length := by
  rw [szM_at]
  exact List.length_filter_le _ _
/-- Two messages are equal. -/
def sameM (a b : MI) : Bool := ((a.u : Int) == (b.u : Int)) && ((a.f : Int) == (b.f : Int)) && (a.b == b.b)
theorem sameM_iff {a b : MI} : sameM a b = true ↔ a.u = b.u ∧ a.f = b.f ∧ a.b = b.b := by
  simp only [sameM, Bool.and_eq_true, beq_iff_eq, and_assoc]
  constructor
  · rintro ⟨h1, h2, h3⟩
    exact ⟨by omega, by omega, h3⟩
  · rintro ⟨h1, h2, h3⟩
    exact ⟨by omega, by omega, h3⟩

/-- The message with an identifier. -/
def getM (l : List MI) (u : Nat) : Option MI := l.find? fun m => decide (m.u = u)
theorem getM_nil (u : Nat) : getM [] u = none := rfl
theorem getM_cons (m : MI) (l : List MI) (u : Nat) : getM (m :: l) u = if m.u = u then some m else getM l u := by
  unfold getM
  by_cases h : m.u = u
  · rw [if_pos h, List.find?_cons_of_pos (by simpa using h)]
  · rw [if_neg h, List.find?_cons_of_neg (by simpa using h)]
theorem getM_u {l : List MI} {u : Nat} {m : MI} (h : getM l u = some m) : m.u = u := by
  have := List.find?_some h
  simpa using this
theorem getM_mem {l : List MI} {u : Nat} {m : MI} (h : getM l u = some m) : m ∈ l := List.mem_of_find?_eq_some h
theorem getM_none {l : List MI} {u : Nat} : getM l u = none ↔ ∀ m ∈ l, m.u ≠ u := by
  unfold getM
  rw [List.find?_eq_none]
  simp
theorem fdI_get (l : List MI) (u : Nat) : (fdI l u = -1 ∧ getM l u = none) ∨ ∃ k, ∃ hk : k < l.length, fdI l u = (k : Int) ∧ getM l u = some l[k] ∧ l[k].u = u := by
  rcases fdI_cases l u with ⟨h1, h2⟩ | ⟨k, hk, h1, h2, h3⟩
  · exact .inl ⟨h1, getM_none.2 h2⟩
  · refine .inr ⟨k, hk, h1, ?_, h2⟩
    unfold getM
    rw [List.find?_eq_some_iff_getElem]
    exact ⟨by simpa using h2, k, hk, rfl, fun j hj => by simpa using h3 j hj⟩
theorem getM_append (l : List MI) (m : MI) (v : Nat) (h : getM l m.u = none) : getM (l ++ [m]) v = if v = m.u then some m else getM l v := by
  induction l with
  | nil =>
    rw [List.nil_append, getM_cons]
    by_cases hv : m.u = v
    · rw [if_pos hv, if_pos hv.symm]
    · rw [if_neg hv, if_neg fun e => hv e.symm]
  | cons y l ih =>
    rw [getM_cons] at h
    have hy : y.u ≠ m.u := by
      intro e
      rw [if_pos e] at h
      cases h
    rw [if_neg hy] at h
    rw [List.cons_append, getM_cons, getM_cons, ih h]
    by_cases hv : v = m.u
    · rw [if_pos hv, if_pos hv, if_neg fun e => hy (e.trans hv)]
    · rw [if_neg hv, if_neg hv]
theorem getM_rem (l : List MI) (u v : Nat) : getM (remM l u) v = if v = u then none else getM l v := by
  induction l with
  | nil => simp [remM, getM]
  | cons y l ih =>
    have e : remM (y :: l) u = if y.u = u then remM l u else y :: remM l u := by
      unfold remM
      by_cases h : y.u = u
      · rw [if_pos h, List.filter_cons_of_neg (by simpa using h)]
      · rw [if_neg h, List.filter_cons_of_pos (by simpa using h)]
    rw [e, getM_cons]
    by_cases h : y.u = u
    · rw [if_pos h, ih]
      by_cases hv : v = u
      · rw [if_pos hv, if_pos hv]
      · rw [if_neg hv, if_neg hv, if_neg fun e => hv (e.symm.trans h)]
    · rw [if_neg h, getM_cons, ih]
      by_cases hv : v = u
      · rw [if_pos hv, if_pos hv, if_neg fun e => h (e.trans hv)]
      · rw [if_neg hv, if_neg hv]
theorem getM_set (l : List MI) (k x : Nat) (hk : k < l.length) (hf : fdI l l[k].u = (k : Int)) (v : Nat) :
    getM (l.set k { l[k] with f := x }) v = if v = l[k].u then some { l[k] with f := x } else getM l v := by
  induction l generalizing k with
  | nil => simp at hk
  | cons y l ih =>
    cases k with
    | zero =>
      rw [List.set_cons_zero, getM_cons, getM_cons]
      show (if y.u = v then _ else _) = if v = y.u then _ else _
      by_cases hv : v = y.u
      · rw [if_pos hv, if_pos hv.symm]
      · rw [if_neg hv, if_neg fun e => hv e.symm, if_neg fun e => hv e.symm]
    | succ k =>
      have hk' : k < l.length := by simpa using hk
      have hg : (y :: l)[k + 1] = l[k] := rfl
      rw [hg] at hf ⊢
      have hy : y.u ≠ l[k].u := by
        intro e
        unfold fdI at hf
        rw [if_pos e] at hf
        omega
      have hf2 : fdI l l[k].u = (k : Int) := by
        unfold fdI at hf
        rw [if_neg hy] at hf
        simp only at hf
        split at hf <;> omega
      rw [List.set_cons_succ, getM_cons, getM_cons, ih k hk' hf2]
      by_cases hv : v = l[k].u
      · rw [if_pos hv, if_pos hv, if_neg fun e => hy (e.trans hv)]
      · rw [if_neg hv, if_neg hv]

/-- No identifier twice, and each message is one that Put takes. -/
structure GoodM (l : List MI) : Prop where
  nd : (l.map (·.u)).Nodup
  ok : ∀ m ∈ l, 0 < m.u ∧ m.u ≤ 4294967295 ∧ m.f ≤ 31 ∧ m.b.length ≤ 65536
theorem GoodM.nil : GoodM [] := ⟨List.nodup_nil, fun m h => by cases h⟩
theorem GoodM.put {l : List MI} {m : MI} (h : GoodM l) (hm : getM l m.u = none) (h1 : 0 < m.u ∧ m.u ≤ 4294967295 ∧ m.f ≤ 31 ∧ m.b.length ≤ 65536) : GoodM (l ++ [m]) := by
  refine ⟨?_, fun x hx => ?_⟩
  · rw [List.map_append]
    refine List.nodup_append.2 ⟨h.nd, by simp, fun a ha b hb => ?_⟩
    obtain ⟨y, hy, rfl⟩ := List.mem_map.1 ha
    obtain rfl : b = m.u := by simpa using hb
    exact getM_none.1 hm y hy
  · rcases List.mem_append.1 hx with hx | hx
    · exact h.ok x hx
    · obtain rfl : x = m := by simpa using hx
      exact h1
theorem GoodM.rem {l : List MI} (h : GoodM l) (u : Nat) : GoodM (remM l u) :=
  ⟨h.nd.sublist ((List.filter_sublist).map _), fun m hm => h.ok m (List.mem_filter.1 hm).1⟩
theorem GoodM.set {l : List MI} (h : GoodM l) (k x : Nat) (hk : k < l.length) (hx : x ≤ 31) : GoodM (l.set k { l[k] with f := x }) := by
  refine ⟨?_, fun m hm => ?_⟩
  · have e : (l.set k { l[k] with f := x }).map (·.u) = l.map (·.u) := by
      rw [List.map_set]
      have : ({ l[k] with f := x } : MI).u = (l.map (·.u))[k]'(by simpa using hk) := by simp
      rw [this, List.set_getElem_self]
    rw [e]
    exact h.nd
  · rcases List.mem_or_eq_of_mem_set hm with hm | rfl
    · exact h.ok m hm
    · obtain ⟨h1, h2, _, h4⟩ := h.ok l[k] (List.getElem_mem _)
      exact ⟨h1, h2, hx, h4⟩
theorem GoodM.get {l : List MI} (h : GoodM l) {m : MI} (hm : m ∈ l) : getM l m.u = some m := by
  have h0 := h.nd
  clear h
  induction l with
  | nil => cases hm
  | cons y l ih =>
    rw [List.map_cons, List.nodup_cons] at h0
    rw [getM_cons]
    rcases List.mem_cons.1 hm with rfl | hm
    · rw [if_pos rfl]
    · rw [if_neg, ih hm h0.2]
      intro e
      exact h0.1 (e ▸ List.mem_map.2 ⟨m, hm, rfl⟩)
theorem wiM_mem {l : List MI} (h : GoodM l) (f n : Nat) : n ∈ wiM l f ↔ ∃ m, getM l n = some m ∧ m.f &&& f = f := by
  unfold wiM
  rw [List.mem_map]
  constructor
  · rintro ⟨m, hm, rfl⟩
    obtain ⟨h1, h2⟩ := List.mem_filter.1 hm
    exact ⟨m, h.get h1, by simpa using h2⟩
  · rintro ⟨m, hm, hf⟩
    exact ⟨m, List.mem_filter.2 ⟨getM_mem hm, by simpa using hf⟩, getM_u hm⟩

/-- Two lists without repeats of the same members are of one length. -/
theorem nodup_len_eq {a b : List Nat} (ha : a.Nodup) (hb : b.Nodup) (h : ∀ n, n ∈ a ↔ n ∈ b) : a.length = b.length := ((List.perm_ext_iff_of_nodup ha hb).2 h).length_eq
/-- A stripe's size: the number of its identifiers, each named once. -/
theorem szM_keys {l : List MI} (h : GoodM l) (n : Nat) {i : Nat} (hi : i < (szM l n).length) {K : List Nat} (hK : K.Nodup) (hmem : ∀ u, u ∈ K ↔ u % n = i ∧ (getM l u).isSome) : (szM l n)[i] = K.length := by
  rw [szM_at]
  have e : (l.filter fun m => decide (m.u % n = i)).length = ((l.filter fun m => decide (m.u % n = i)).map (·.u)).length := by rw [List.length_map]
  rw [e]
  refine nodup_len_eq (h.nd.sublist ((List.filter_sublist).map _)) hK fun u => ?_
  rw [hmem, List.mem_map]
  constructor
  · rintro ⟨m, hm, rfl⟩
    obtain ⟨h1, h2⟩ := List.mem_filter.1 hm
    exact ⟨by simpa using h2, by rw [h.get h1]; rfl⟩
  · rintro ⟨h1, h2⟩
    obtain ⟨m, hm⟩ := Option.isSome_iff_exists.1 h2
    have hu := getM_u hm
    exact ⟨m, List.mem_filter.2 ⟨getM_mem hm, by rw [hu]; simpa using h1⟩, hu⟩
theorem sum_set : ∀ (L : List Nat) (j : Nat) (hj : j < L.length), (L.set j (L[j] + 1)).sum = L.sum + 1
  | [], j, hj => by simp at hj
  | x :: L, 0, _ => by simp; omega
  | x :: L, j + 1, hj => by
    have := sum_set L j (by simpa using hj)
    simp only [List.set_cons_succ, List.sum_cons, List.getElem_cons_succ]
    omega
/-- The stripes together hold every message. -/
theorem szM_sum (l : List MI) (n : Nat) (hn : 0 < n) : (szM l n).sum = l.length := by
  have key : ∀ k, k ≤ l.length → (szM (l.take k) n).sum = k := by
    intro k
    induction k with
    | zero => intro _; rw [List.take_zero, szM_nil]; simp
    | succ k ih =>
      intro hk
      have hjn : l[k].u % n < (szM (l.take k) n).length := by rw [szM_len]; exact Nat.mod_lt _ hn
      rw [szM_take (n := n) (k := k) hk rfl hjn, sum_set, ih (by omega)]
  have := key l.length (Nat.le_refl _)
  rwa [List.take_length] at this
end Go.Proofs.YthdbbappojkmoaaGreat
