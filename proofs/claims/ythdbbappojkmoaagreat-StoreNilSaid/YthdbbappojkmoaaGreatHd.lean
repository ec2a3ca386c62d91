/- A map keyed by a struct of an int and a uint32, whatever its elements: what it holds at each key, how many it holds. -/
import Derived.Test.YthdbbappojkmoaaGreatHa
import Derived.Maps.OwnSet
import Derived.DeepKeys4
import Derived.WalkKit
import Derived.OpenShut
import Derived.Test.YthdbbappojkmoaaGreatHb
import Derived.Laws.StructEq
import Derived.BigRegion
import Derived.Deep.CutBlock
import Derived.Deep.RegionHeld3
namespace Go.Proofs.YthdbbappojkmoaaGreat
open Go.RowKit Go.Maps Go.ChangeMaps

/-- A key: a kind and an identifier. -/
structure Ky where
  k : Int
  u : Nat
deriving DecidableEq
def Ky.ok (x : Ky) : Prop := (-9223372036854775808 ≤ x.k ∧ x.k ≤ 9223372036854775807) ∧ x.u ≤ 4294967295
def Ky.v (x : Ky) : Value := .agg #[.int .i64 x.k, .int .u32 (x.u : Int)]
def Ky.lit (x : Ky) : Lit := .string (keyBytes [.int .i64 x.k, .int .u32 (x.u : Int)])
theorem laidOutK : laidOutB Tryz.prog = true := by kernel_rfl
theorem keyLawK : WideMaps.KeyLaw Tryz.prog 145 := deep_law_laid laidOutK (m := 2) (by omega) (of_decide_eq_true (by kernel_rfl)) (by kernel_rfl) (by rw [Tryz.underlying145])
theorem lawK : Keyed Tryz.prog 145 := Keyed.of_law keyLawK
set_option maxRecDepth 100000 in
theorem keyK {x : Ky} (h : x.ok) : keyOf Tryz.prog 145 x.v = some x.lit := by
  obtain ⟨⟨h1, h2⟩, h3⟩ := h
  have w1 : (Lit.int .i64 x.k).wf = true := by
    simp [Lit.wf, IntKind.min, IntKind.max, IntKind.bits, IntKind.signed]
    omega
  have w2 : (Lit.int .u32 (x.u : Int)).wf = true := by
    simp [Lit.wf, IntKind.min, IntKind.max, IntKind.bits, IntKind.signed]
    omega
  have hkt : Tryz.prog.keyType 145 = true := by kernel_rfl
  have hc : Tryz.prog.cellsOf 145 = 2 := by kernel_rfl
  have c1 : Tryz.prog.cellsOf 3 = 1 := by kernel_rfl
  have c2 : Tryz.prog.cellsOf 27 = 1 := by kernel_rfl
  obtain ⟨m, hm⟩ : ∃ m, Tryz.prog.types.size = m + 1 := Nat.exists_eq_succ_of_ne_zero (of_decide_eq_true (by kernel_rfl))
  unfold keyOf Ky.v Ky.lit
  simp only [Tryz.underlying145]
  rw [if_pos (by simp [hkt, Value.formed, Tryz.underlying145, hc]), hm]
  unfold Program.keyLits
  simp only [Tryz.underlying145, Value.cells]
  rw [if_pos (by rw [hc]; exact ⟨rfl, by simp⟩)]
  simp [Program.keyLits, c1, c2, Tryz.underlying3, Tryz.underlying27, w1, w2]
theorem lit_ne {x y : Ky} (hx : x.ok) (hy : y.ok) (h : x ≠ y) : x.lit ≠ y.lit := by
  intro e
  have := keyLawK.inj (keyK hx) (e ▸ keyK hy)
  unfold Ky.v at this
  apply h
  obtain ⟨a, b⟩ := x
  obtain ⟨c, d⟩ := y
  simp at this
  obtain ⟨rfl, h2⟩ := this
  obtain rfl : b = d := by omega
  rfl
/-- Each element reads as itself. -/
def heldK : Value → Option (DataW Value × List MemPlace) := fun v => some (.held v, [])
/-- What the datum says at each key. -/
def SeenK (D : DataW Value) (G : Ky → Option Value) : Prop :=
  ∀ x : Ky, x.ok → Maps.has D x.lit = (G x).isSome ∧ ∀ v, G x = some v → ∀ z, D.atKey x.lit z = .held v
theorem SeenK.put {D : DataW Value} {G : Ky → Option Value} (h : SeenK D G) (hD : IsMap D) {u : Ky} (hu : u.ok) (v : Value) : SeenK (D.put u.lit (.held v)) (fun x => if x = u then some v else G x) := by
  intro x hx
  by_cases e : x = u
  · subst e
    simp only [if_true]
    exact ⟨has_put_same hD (by simp [WideAt.IsKeyLit, Ky.lit]) _, fun y hy z => by cases hy; exact atKey_put_same hD (by simp [WideAt.IsKeyLit, Ky.lit]) _ _⟩
  · have hne := lit_ne hx hu e
    simp only [if_neg e]
    exact ⟨(has_put_other hne _).trans (h x hx).1, fun y hy z => (atKey_put_other hne _ _).trans ((h x hx).2 y hy z)⟩

/-- The map in block b, of at most n entries: G what it holds. -/
def MapK (w : World) (b n : Nat) (G : Ky → Option Value) : Prop :=
  ∃ D, w.ownsMap Tryz.prog 145 heldK b n D ∧ SeenK D G
section
variable {w w' : World} {b n : Nat} {G : Ky → Option Value} {t e : TypeId}
theorem MapK.made (w : World) : MapK (w.alloc (.map #[] 0)) w.heap.size 0 (fun _ => none) :=
  ⟨_, World.ownsMap_made _ _ _ _, fun u _ => ⟨rfl, fun v hv => by cases hv⟩⟩
theorem MapK.lt (h : MapK w b n G) : b < w.heap.size := by
  obtain ⟨D, h, _⟩ := h
  exact h.lt
theorem MapK.kept {row : Option Nat} (h : MapK w b n G) (hg : w.grownBy w' row) (hne : some b ≠ row) : MapK w' b n G := by
  obtain ⟨D, h, r⟩ := h
  exact ⟨D, h.kept hg hne, r⟩
theorem MapK.below (h : MapK w b n G) (hb : Below w.heap.size w w') : MapK w' b n G :=
  h.kept (row := none) ⟨hb.os, hb.tape, hb.output, hb.size, fun k hk _ => hb.block k hk⟩ (by simp)
set_option maxRecDepth 100000 in
/-- 'm[u]'. -/
theorem MapK.look1 (h : MapK w b n G) (ht : Tryz.prog.underlying t = some (.map 145 e)) {z : Value} (hz : (zeroValue e).run Tryz.prog w = .ok z w) {u : Ky} (hu : u.ok) :
    (Instr.lookup t (.map (some b)) u.v false).run Tryz.prog w = .ok ((G u).getD z) w := by
  obtain ⟨D, h, hs⟩ := h
  obtain ⟨v, ps, hrun, hv⟩ := h.lookup lawK ht hz (zd := .held z) (zp := []) rfl (keyK hu)
  obtain ⟨h1, h2⟩ := hs u hu
  rw [hrun]
  cases hG : G u with
  | none =>
    rw [atKey_of_not_has (by rw [h1, hG]; rfl)] at hv
    simp only [heldK, Option.some.injEq, Prod.mk.injEq, DataW.held.injEq] at hv
    rw [hv.1]
    rfl
  | some y =>
    rw [h2 y hG] at hv
    simp only [heldK, Option.some.injEq, Prod.mk.injEq, DataW.held.injEq] at hv
    rw [hv.1]
    rfl
set_option maxRecDepth 100000 in
/-- 'm[u] = v'. -/
theorem MapK.store (h : MapK w b n G) (ht : Tryz.prog.underlying t = some (.map 145 e)) (hn : n < maxLen) {u : Ky} (hu : u.ok) (v : Value) :
    ∃ w', (Instr.mapUpdate t (.map (some b)) u.v v).run Tryz.prog w = .ok () w' ∧ MapK w' b (n + 1) (fun x => if x = u then some v else G x) ∧ w.grownBy w' (some b) := by
  obtain ⟨D, h, hs⟩ := h
  obtain ⟨w', hrun, h2, h3⟩ := h.update lawK ht hn (keyK hu) (d := .held v) (ps := []) rfl
  exact ⟨w', hrun, ⟨_, h2, hs.put h.isMap hu v⟩, h3⟩
end
end Go.Proofs.YthdbbappojkmoaaGreat

namespace Go.Proofs.YthdbbappojkmoaaGreat
open Go.RowKit

/-- An event's key. -/
def kyE (x : EvI) : Ky := ⟨x.k, x.u⟩
theorem kyE_ok {x : EvI} (h : evOk x) : (kyE x).ok := ⟨h.1, h.2.1⟩
/-- A kind's name. -/
def nameE (k : Int) : ByteArray := if k = 1 then "arrived".toUTF8 else if k = 2 then "gone".toUTF8 else if k = 3 then "changed".toUTF8 else ⟨#[]⟩
theorem name1 : nameE 1 = ⟨#[97, 114, 114, 105, 118, 101, 100]⟩ := by decide +kernel
theorem name2 : nameE 2 = ⟨#[103, 111, 110, 101]⟩ := by decide +kernel
theorem name3 : nameE 3 = ⟨#[99, 104, 97, 110, 103, 101, 100]⟩ := by decide +kernel
set_option maxRecDepth 100000 in
theorem keyOfE_any (x : EvI) (w : World) : Calls Tryz.prog 82 #[evV x] w fun e w' => e = .returned (kyE x).v ∧ Below w.heap.size w w' := by
  have HB := Lib.hid (below_next (below_al w (.cells #[.int .i64 x.k, .int .u32 (x.u : Int), .int .u8 (x.f : Int)] 44)) (below_al _ (.cells #[.int .i64 x.k, .int .u32 (x.u : Int)] 145)))
  unfold evV kyE Ky.v
  go_enter Tryz.func82, Tryz.ntmps82
  go_wp2_with fail
  exact bodyPost_ret (v := .agg #[.int .i64 x.k, .int .u32 (x.u : Int)]) (by simp [results, Tryz.results82, go_sem]) rfl ⟨rfl, HB.out⟩
set_option maxRecDepth 100000 in
theorem qname_any (k : Int) (_hk : -9223372036854775808 ≤ k ∧ k ≤ 9223372036854775807) (w : World) : Calls Tryz.prog 57 #[.int .i64 k] w fun e w' => e = .returned (.string (nameE k)) ∧ Below w.heap.size w w' := by
  by_cases h1 : k = 1
  · subst h1
    rw [name1]
    go_enter Tryz.func57, Tryz.ntmps57
    go_wp2_with fail
    go_ret
    exact ⟨rfl, Below.refl _ _⟩
  · by_cases h2 : k = 2
    · subst h2
      rw [name2]
      clear h1
      go_enter Tryz.func57, Tryz.ntmps57
      go_wp2_with fail
      go_ret
      exact ⟨rfl, Below.refl _ _⟩
    · by_cases h3 : k = 3
      · subst h3
        rw [name3]
        clear h1 h2
        go_enter Tryz.func57, Tryz.ntmps57
        go_wp2_with fail
        go_ret
        exact ⟨rfl, Below.refl _ _⟩
      · have e1 : (k == 1) = false := beq_eq_false_iff_ne.2 h1
        have e2 : (k == 2) = false := beq_eq_false_iff_ne.2 h2
        have e3 : (k == 3) = false := beq_eq_false_iff_ne.2 h3
        rw [show nameE k = ⟨#[]⟩ by unfold nameE; rw [if_neg h1, if_neg h2, if_neg h3]]
        clear h1 h2 h3
        go_enter Tryz.func57, Tryz.ntmps57
        go_wp2_with fail
        go_ret
        exact ⟨rfl, Below.refl _ _⟩
theorem name_empty (k : Int) : (nameE k).toList.isEmpty = !decide (1 ≤ k ∧ k ≤ 3) := by
  rw [btl]
  by_cases h1 : k = 1
  · subst h1; rw [name1]; rfl
  · by_cases h2 : k = 2
    · subst h2; rw [name2]; rfl
    · by_cases h3 : k = 3
      · subst h3; rw [name3]; rfl
      · rw [show nameE k = ⟨#[]⟩ by unfold nameE; rw [if_neg h1, if_neg h2, if_neg h3], decide_eq_false (by omega)]
        rfl
set_option maxRecDepth 100000 in
/-- Push's closure: the kind has a name. -/
theorem known_any (x : EvI) (hx : evOk x) (w : World) : Calls Tryz.prog 56 #[evV x] w fun e w' => e = .returned (.bool (knownE x)) ∧ Below w.heap.size w w' := by
  have HB := Lib.hid (below_al w (.cells #[.int .i64 x.k, .int .u32 (x.u : Int), .int .u8 (x.f : Int)] 44))
  have NM := Lib.hid (fun W => qname_any x.k hx.1 W)
  have HE := Lib.hid (show (!(nameE x.k).toList.isEmpty) = knownE x by rw [name_empty, Bool.not_not]; rfl)
  generalize nameE x.k = s at *
  unfold evV
  go_enter Tryz.func56, Tryz.ntmps56
  go_wp2_with fail
  refine (NM.out _).mono ?_
  rintro e w1 ⟨rfl, h1⟩
  have HF := Lib.hid (below_next HB.out h1)
  clear h1 NM
  go_wp2_with fail
  go_ret
  exact ⟨ret_bool HE.out, HF.out⟩
set_option maxRecDepth 100000 in
/-- Flush's closure: may this event be told? -/
theorem told_any (x : EvI) (b : Nat) (gone : Bool) (w : World) (hc : w.cell? ⟨b, 0, none⟩ = some (.bool gone)) : Calls Tryz.prog 62 #[evV x, .pointer (some ⟨b, 0, none⟩)] w fun e w' => e = .returned (.bool (gone || decide (x.k ≠ 2))) ∧ Below w.heap.size w w' := by
  have hb : b < w.heap.size := World.block_lt_of_cell? _ _ hc
  have hc2 : (w.alloc (.cells #[.int .i64 x.k, .int .u32 (x.u : Int), .int .u8 (x.f : Int)] 44)).cell? ⟨b, 0, none⟩ = some (.bool gone) := (World.cell?_alloc_lt w _ ⟨b, 0, none⟩ hb).trans hc
  have HB := Lib.hid (below_al w (.cells #[.int .i64 x.k, .int .u32 (x.u : Int), .int .u8 (x.f : Int)] 44))
  unfold evV
  cases gone with
  | true =>
    go_enter Tryz.func62, Tryz.ntmps62
    go_wp2_with fail
    go_ret
    exact ⟨rfl, HB.out⟩
  | false =>
    rw [show (false || decide (x.k ≠ 2)) = (x.k != 2) by by_cases e : x.k = 2 <;> simp [e]]
    go_enter Tryz.func62, Tryz.ntmps62
    go_wp2_with fail
    go_ret
    exact ⟨rfl, HB.out⟩
theorem eqlKy (x y : Ky) (W : World) : (binOp .eql 145 (.agg #[.int .i64 x.k, .int .u32 (x.u : Int)]) (.agg #[.int .i64 y.k, .int .u32 (y.u : Int)])).run Tryz.prog W = .ok (.bool (decide (x = y))) W := by
  have u3 := Tryz.underlying27
  have a3 := Tryz.isAgg27
  have z3 := Tryz.sizeOf27
  have u4 := Tryz.underlying3
  have a4 := Tryz.isAgg3
  have z4 := Tryz.sizeOf3
  have hS : Tryz.prog.underlying 145 = some (.struct (Tryz.prog.fieldsOf 145)) := by kernel_rfl
  have hp : Tryz.prog.stoodInHeld 145 = false := by kernel_rfl
  rw [run_eql_struct, show (10000 : Nat) = 9999 + 1 from rfl, run_equalIn_agg W 9999 145 _ _ hS hp]
  simp only [Program.fieldsOf, Tryz.underlying145]
  have e1 : ((x.u : Int) = (y.u : Int)) = (x.u = y.u) := propext ⟨by omega, by omega⟩
  go_simp
  obtain ⟨a, b⟩ := x
  obtain ⟨c, d⟩ := y
  by_cases h0 : a = c <;> by_cases h1 : b = d <;> simp [h0, h1]
end Go.Proofs.YthdbbappojkmoaaGreat

namespace Go.Proofs.YthdbbappojkmoaaGreat
open Go.RowKit

theorem filt_take {α : Type} (p : α → Bool) {l : List α} {k : Nat} (hk : k < l.length) : (l.take (k + 1)).filter p = if p l[k] = true then (l.take k).filter p ++ [l[k]] else (l.take k).filter p := by
  rw [List.take_succ_eq_append_getElem hk, List.filter_append]
  by_cases h : p l[k] = true
  · rw [if_pos h, List.filter_cons_of_pos h, List.filter_nil]
  · rw [if_neg h, List.filter_cons_of_neg h, List.filter_nil, List.append_nil]
theorem ev_one (x : EvI) : ∀ u ∈ [Value.int .i64 x.k, .int .u32 (x.u : Int), .int .u8 (x.f : Int)], u.oneCell' = true := by
  intro u hu
  simp at hu
  rcases hu with rfl | rfl | rfl <;> rfl
end Go.Proofs.YthdbbappojkmoaaGreat

namespace Go.Proofs.YthdbbappojkmoaaGreat
open Go.RowKit

section
variable {F : Nat} {cs : Array Value} {p : EvI → Bool} {KW : World → Prop} {A : Option Addr} {c : Nat} {l : List EvI} {w : World}
set_option maxRecDepth 100000 in
set_option maxHeartbeats 2000000 in
theorem divide_any (henter : ∀ args w, (callFunc F args).run Tryz.prog w = .ok (.enter F args) w) (hl : l.length ≤ 200000) (hS : SlAt encEv 3 w A l) (hK : KW w) (hb : ∀ W, KW w → Below w.heap.size w W → KW W)
    (hp : ∀ x ∈ l, ∀ W, KW W → Calls Tryz.prog F (#[evV x] ++ cs) W fun e w' => e = .returned (.bool (p x)) ∧ Below W.heap.size W w') :
    Calls Tryz.prog 55 #[.slice A l.length c, .func (.func F) #[] cs] w fun e w' => ∃ (A1 A2 : Option Addr) (c1 c2 : Nat), e = .returned (.tuple #[.slice A1 (l.filter p).length c1, .slice A2 (l.filter fun x => !p x).length c2]) ∧
      w'.ownsRow w.heap.size 44 3 (.slice A1 (l.filter p).length c1) (l.filter p).length (flatL encEv (l.filter p)) ∧ w'.ownsRow w.heap.size 44 3 (.slice A2 (l.filter fun x => !p x).length c2) (l.filter fun x => !p x).length (flatL encEv (l.filter fun x => !p x)) ∧ Below w.heap.size w w' := by
  obtain ⟨i0, hi, hz0, hz1, hz2⟩ := info_parts infoEv
  have HS := Lib.hid hS
  have HKW := Lib.hid (fun W h => hb W hK h)
  have HP := Lib.hid hp
  clear hS hK hb hp
  go_enter Tryz.func55, Tryz.ntmps55
  go_wp2_with fail
  go_loopw [4, 5, 10] (fun v1 v2 i wr => ∃ k : Nat, k ≤ l.length ∧ i = .int .i64 k ∧ ∃ (A1 A2 : Option Addr) (c1 c2 : Nat), v1 = .slice A1 ((l.take k).filter p).length c1 ∧ v2 = .slice A2 ((l.take k).filter fun x => !p x).length c2 ∧
    Hid (wr.ownsRow w.heap.size 44 3 (.slice A1 ((l.take k).filter p).length c1) ((l.take k).filter p).length (flatL encEv ((l.take k).filter p))) ∧ Hid (wr.ownsRow w.heap.size 44 3 (.slice A2 ((l.take k).filter fun x => !p x).length c2) ((l.take k).filter fun x => !p x).length (flatL encEv ((l.take k).filter fun x => !p x))) ∧ Hid (Apart A1 A2) ∧ Hid (Below w.heap.size w wr)) (fun _ _ i _ => l.length - (intOf i).toNat)
  case atStart => exact ⟨0, Nat.zero_le _, rfl, none, none, 0, 0, rfl, rfl, Lib.hid (World.ownsRow_nil _ _ _ _), Lib.hid (World.ownsRow_nil _ _ _ _), Lib.hid (Apart.none_left _), Lib.hid (Below.refl _ _)⟩
  case round =>
    obtain ⟨k, hk, rfl, A1, A2, c1, c2, rfl, rfl, h1, h2, hap, hB⟩ := hrel
    have hk0 : (0 : Int) ≤ (k : Int) := by omega
    by_cases hlt : k < l.length
    · obtain ⟨b, off, rfl, hb, hx, hx1, hx2⟩ := (HS.out.below hB.out).ev hlt
      have hk1 : (k : Int) < (l.length : Int) := by omega
      have KY := Lib.hid (show (p l[k] = true → (l.take (k + 1)).filter p = (l.take k).filter p ++ [l[k]] ∧ (l.take (k + 1)).filter (fun x => !p x) = (l.take k).filter (fun x => !p x)) ∧ (p l[k] = false → (l.take (k + 1)).filter p = (l.take k).filter p ∧ (l.take (k + 1)).filter (fun x => !p x) = (l.take k).filter (fun x => !p x) ++ [l[k]]) by
        rw [filt_take p hlt, filt_take (fun x => !p x) hlt]
        cases p l[k] <;> simp)
      have hl1 : ((l.take k).filter p).length ≤ 200000 := Nat.le_trans (List.length_filter_le _ _) (Nat.le_trans (List.length_take_le _ _) (by omega))
      have hl2 : ((l.take k).filter fun x => !p x).length ≤ 200000 := Nat.le_trans (List.length_filter_le _ _) (Nat.le_trans (List.length_take_le _ _) (by omega))
      have hBs := hB.out.size
      have HNW := Lib.hid (heap_alloc_new wr (.cells #[.int .i64 l[k].k, .int .u32 (l[k].u : Int), .int .u8 (l[k].f : Int)] 44))
      have HB1 := Lib.hid (hB.out.alloc hBs (.cells #[.int .i64 l[k].k, .int .u32 (l[k].u : Int), .int .u8 (l[k].f : Int)] 44))
      have hsz : wr.heap.size < (wr.alloc (.cells #[.int .i64 l[k].k, .int .u32 (l[k].u : Int), .int .u8 (l[k].f : Int)] 44)).heap.size := by simp
      have C := HP.out l[k] (List.getElem_mem hlt) _ (HKW.out _ HB1.out)
      have H1 := Lib.hid (own_below h1.out (below_al wr (.cells #[.int .i64 l[k].k, .int .u32 (l[k].u : Int), .int .u8 (l[k].f : Int)] 44)))
      have H2 := Lib.hid (own_below h2.out (below_al wr (.cells #[.int .i64 l[k].k, .int .u32 (l[k].u : Int), .int .u8 (l[k].f : Int)] 44)))
      clear h1 h2 HP
      generalize l[k] = x at *
      generalize (l.take k).filter p = Q1 at *
      generalize (l.take k).filter (fun x => !p x) = Q2 at *
      have HSZ := Lib.hid hsz
      clear hsz
      cases hpx : p x with
      | true =>
        obtain ⟨ht, hr⟩ := KY.out.1 hpx
        have HT := Lib.hid ht
        have HR := Lib.hid hr
        rw [hpx] at C
        unfold evV at C
        have C := Lib.hid C
        clear ht hr KY hpx
        go_wp2_with fail
        refine C.out.mono ?_
        rintro e w2 ⟨rfl, hb2⟩
        have hbox := (hb2.block _ HSZ.out).trans HNW.out
        have y0 := cell_of_row _ _ 0 _ _ _ hbox
        have y1 := cell_of_row _ _ 1 _ _ _ hbox
        have y2 := cell_of_row _ _ 2 _ _ _ hbox
        have hB2 := HB1.out.trans (hb2.mono HB1.out.size)
        have hs2 := hB2.size
        have HO1 := own_below H1.out hb2
        have HO2 := Lib.hid (own_below H2.out hb2)
        have HRW := Lib.hid (HO1.alloc (.cells #[.int .i64 x.k, .int .u32 (x.u : Int), .int .u8 (x.f : Int)] 44))
        have HO1 := Lib.hid HO1
        have HB2 := Lib.hid hB2
        have HSE := Lib.hid (slAt_ev (W := w2.alloc (.cells #[.int .i64 x.k, .int .u32 (x.u : Int), .int .u8 (x.f : Int)] 44)) x (heap_alloc_new _ _))
        have h63 : Q1.length + [x].length ≤ maxLen := by simp only [List.length_singleton, maxLen]; omega
        have h64 : (Q1.length + [x].length) * 16 ≤ 140737488355328 := by simp only [List.length_singleton]; omega
        have hba : w.heap.size ≤ (w2.alloc (.cells #[.int .i64 x.k, .int .u32 (x.u : Int), .int .u8 (x.f : Int)] 44)).heap.size := by simp; omega
        clear C hb2 HNW HB1 H1 H2 HSZ hbox hB2
        go_wp2_with (at_builtin; refine wpList_append_slg _ rfl _ _ 41 rfl w.heap.size 44 i0 _ 16 Tryz.underlying41 hi hz0 hz1 hz2 rfl (by decide) _ Q1.length _ rfl HRW.out ⟨w2.heap.size, 0, none⟩ [x] 1 1 rfl rfl encEv_len HSE.out (one_flatEv _) h63 h64 hba ?_; intro v' wz hown' hgrow hfr; obtain ⟨A3, c3, rfl⟩ := own_any hown'; have HAP := Lib.hid (apart_step _ HO2.out hap.out hgrow hfr); have HB3 := Lib.hid ((HB2.out.alloc hs2 (.cells #[.int .i64 x.k, .int .u32 (x.u : Int), .int .u8 (x.f : Int)] 44)).grown hgrow hba (fun k hk => (HO1.out.lt k hk).1)); have HO3 := Lib.hid hown'; clear hown' hgrow hfr)
        go_roundw
        case rel => exact ⟨k + 1, by omega, by go_num, A3, A2, c3, c2, by rw [HT.out, List.length_append]; rfl, by rw [HR.out], by rw [HT.out, List.length_append, flatL_append]; exact HO3, by rw [HR.out]; exact Lib.hid HAP.out.1, Lib.hid HAP.out.2, HB3⟩
        case measure => simp [intOf]; omega
      | false =>
        obtain ⟨ht, hr⟩ := KY.out.2 hpx
        have HT := Lib.hid ht
        have HR := Lib.hid hr
        rw [hpx] at C
        unfold evV at C
        have C := Lib.hid C
        clear ht hr KY hpx
        go_wp2_with fail
        refine C.out.mono ?_
        rintro e w2 ⟨rfl, hb2⟩
        have hbox := (hb2.block _ HSZ.out).trans HNW.out
        have y0 := cell_of_row _ _ 0 _ _ _ hbox
        have y1 := cell_of_row _ _ 1 _ _ _ hbox
        have y2 := cell_of_row _ _ 2 _ _ _ hbox
        have hB2 := HB1.out.trans (hb2.mono HB1.out.size)
        have hs2 := hB2.size
        have HO1 := Lib.hid (own_below H1.out hb2)
        have HO2 := own_below H2.out hb2
        have HRW := Lib.hid (HO2.alloc (.cells #[.int .i64 x.k, .int .u32 (x.u : Int), .int .u8 (x.f : Int)] 44))
        have HO2 := Lib.hid HO2
        have HB2 := Lib.hid hB2
        have HSE := Lib.hid (slAt_ev (W := w2.alloc (.cells #[.int .i64 x.k, .int .u32 (x.u : Int), .int .u8 (x.f : Int)] 44)) x (heap_alloc_new _ _))
        have h63 : Q2.length + [x].length ≤ maxLen := by simp only [List.length_singleton, maxLen]; omega
        have h64 : (Q2.length + [x].length) * 16 ≤ 140737488355328 := by simp only [List.length_singleton]; omega
        have hba : w.heap.size ≤ (w2.alloc (.cells #[.int .i64 x.k, .int .u32 (x.u : Int), .int .u8 (x.f : Int)] 44)).heap.size := by simp; omega
        clear C hb2 HNW HB1 H1 H2 HSZ hbox hB2
        go_wp2_with (at_builtin; refine wpList_append_slg _ rfl _ _ 41 rfl w.heap.size 44 i0 _ 16 Tryz.underlying41 hi hz0 hz1 hz2 rfl (by decide) _ Q2.length _ rfl HRW.out ⟨w2.heap.size, 0, none⟩ [x] 1 1 rfl rfl encEv_len HSE.out (one_flatEv _) h63 h64 hba ?_; intro v' wz hown' hgrow hfr; obtain ⟨A3, c3, rfl⟩ := own_any hown'; have HAP := Lib.hid (apart_step _ HO1.out hap.out.symm hgrow hfr); have HB3 := Lib.hid ((HB2.out.alloc hs2 (.cells #[.int .i64 x.k, .int .u32 (x.u : Int), .int .u8 (x.f : Int)] 44)).grown hgrow hba (fun k hk => (HO2.out.lt k hk).1)); have HO3 := Lib.hid hown'; clear hown' hgrow hfr)
        go_roundw
        case rel => exact ⟨k + 1, by omega, by go_num, A1, A3, c1, c3, by rw [HT.out], by rw [HR.out, List.length_append]; rfl, by rw [HT.out]; exact Lib.hid HAP.out.1, by rw [HR.out, List.length_append, flatL_append]; exact HO3, Lib.hid HAP.out.2.symm, HB3⟩
        case measure => simp [intOf]; omega
    · obtain rfl : k = l.length := by omega
      rw [List.take_length] at *
      clear HP HKW
      go_wp2_with fail
      go_ret2
      exact ⟨_, _, _, _, rfl, h1.out, h2.out, hB.out⟩
end
end Go.Proofs.YthdbbappojkmoaaGreat
