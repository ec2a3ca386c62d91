/- A map keyed by a struct of an int and a uint32, whatever its elements: what it holds at each key, how many it holds. -/
import Derived.Test.YtfmloifgngembaaSl
import Derived.Maps.OwnSet
import Derived.DeepKeys4
import Derived.WalkKit
import Derived.OpenShut
namespace Go.Proofs.Ytfmloifgngembaa
open Go.RowKit Go.Maps Go.ChangeMaps

/-- A key: a kind and an identifier. -/
structure Ky where
  k : Int
  u : Nat
deriving DecidableEq
def Ky.ok (x : Ky) : Prop := (-9223372036854775808 ≤ x.k ∧ x.k ≤ 9223372036854775807) ∧ x.u ≤ 4294967295
def Ky.v (x : Ky) : Value := .agg #[.int .i64 x.k, .int .u32 (x.u : Int)]
def Ky.lit (x : Ky) : Lit := .string (keyBytes [.int .i64 x.k, .int .u32 (x.u : Int)])
theorem laidOutK : laidOutB Try.prog = true := by kernel_rfl
theorem keyLawK : WideMaps.KeyLaw Try.prog 59 := deep_law_laid laidOutK (m := 2) (by omega) (of_decide_eq_true (by kernel_rfl)) (by kernel_rfl) (by rw [Try.underlying59])
theorem lawK : Keyed Try.prog 59 := Keyed.of_law keyLawK
set_option maxRecDepth 100000 in
theorem keyK {x : Ky} (h : x.ok) : keyOf Try.prog 59 x.v = some x.lit := by
  obtain ⟨⟨h1, h2⟩, h3⟩ := h
  have w1 : (Lit.int .i64 x.k).wf = true := by
    simp [Lit.wf, IntKind.min, IntKind.max, IntKind.bits, IntKind.signed]
    omega
  have w2 : (Lit.int .u32 (x.u : Int)).wf = true := by
    simp [Lit.wf, IntKind.min, IntKind.max, IntKind.bits, IntKind.signed]
    omega
  have hkt : Try.prog.keyType 59 = true := by kernel_rfl
  have hc : Try.prog.cellsOf 59 = 2 := by kernel_rfl
  have c1 : Try.prog.cellsOf 3 = 1 := by kernel_rfl
  have c2 : Try.prog.cellsOf 23 = 1 := by kernel_rfl
  obtain ⟨m, hm⟩ : ∃ m, Try.prog.types.size = m + 1 := Nat.exists_eq_succ_of_ne_zero (of_decide_eq_true (by kernel_rfl))
  unfold keyOf Ky.v Ky.lit
  simp only [Try.underlying59]
  rw [if_pos (by simp [hkt, Value.formed, Try.underlying59, hc]), hm]
  unfold Program.keyLits
  simp only [Try.underlying59, Value.cells]
  rw [if_pos (by rw [hc]; exact ⟨rfl, by simp⟩)]
  simp [Program.keyLits, c1, c2, Try.underlying3, Try.underlying23, w1, w2]
theorem lit_ne {x y : Ky} (hx : x.ok) (hy : y.ok) (h : x ≠ y) : x.lit ≠ y.lit := by
  intro e
  have := keyLawK.inj (keyK hx) (e ▸ keyK hy)
  unfold Ky.v at this
  apply h
  obtain ⟨a, b⟩ := x
  obtain ⟨c, d⟩ := y
  simp at this
  obtain ⟨rfl, h2⟩ := this
  obtain rfl : b = d := by omega
  rfl
/-- Each element reads as itself. -/
def heldK : Value → Option (DataW Value × List MemPlace) := fun v => some (.held v, [])
/-- What the datum says at each key. -/
def SeenK (D : DataW Value) (G : Ky → Option Value) : Prop :=
  ∀ x : Ky, x.ok → Maps.has D x.lit = (G x).isSome ∧ ∀ v, G x = some v → ∀ z, D.atKey x.lit z = .held v
theorem SeenK.put {D : DataW Value} {G : Ky → Option Value} (h : SeenK D G) (hD : IsMap D) {u : Ky} (hu : u.ok) (v : Value) : SeenK (D.put u.lit (.held v)) (fun x => if x = u then some v else G x) := by
  intro x hx
  by_cases e : x = u
  · subst e
    simp only [if_true]
    exact ⟨has_put_same hD (by simp [WideAt.IsKeyLit, Ky.lit]) _, fun y hy z => by cases hy; exact atKey_put_same hD (by simp [WideAt.IsKeyLit, Ky.lit]) _ _⟩
  · have hne := lit_ne hx hu e
    simp only [if_neg e]
    exact ⟨(has_put_other hne _).trans (h x hx).1, fun y hy z => (atKey_put_other hne _ _).trans ((h x hx).2 y hy z)⟩

/-- The map in block b, of at most n entries: G what it holds. -/
def MapK (w : World) (b n : Nat) (G : Ky → Option Value) : Prop :=
  ∃ D, w.ownsMap Try.prog 59 heldK b n D ∧ SeenK D G
section
variable {w w' : World} {b n : Nat} {G : Ky → Option Value} {t e : TypeId}
theorem MapK.made (w : World) : MapK (w.alloc (.map #[] 0)) w.heap.size 0 (fun _ => none) :=
  ⟨_, World.ownsMap_made _ _ _ _, fun u _ => ⟨rfl, fun v hv => by cases hv⟩⟩
theorem MapK.lt (h : MapK w b n G) : b < w.heap.size := by
  obtain ⟨D, h, _⟩ := h
  exact h.lt
theorem MapK.kept {row : Option Nat} (h : MapK w b n G) (hg : w.grownBy w' row) (hne : some b ≠ row) : MapK w' b n G := by
  obtain ⟨D, h, r⟩ := h
  exact ⟨D, h.kept hg hne, r⟩
theorem MapK.below (h : MapK w b n G) (hb : Below w.heap.size w w') : MapK w' b n G :=
  h.kept (row := none) ⟨hb.os, hb.tape, hb.output, hb.size, fun k hk _ => hb.block k hk⟩ (by simp)
set_option maxRecDepth 100000 in
/-- 'm[u]'. -/
theorem MapK.look1 (h : MapK w b n G) (ht : Try.prog.underlying t = some (.map 59 e)) {z : Value} (hz : (zeroValue e).run Try.prog w = .ok z w) {u : Ky} (hu : u.ok) :
    (Instr.lookup t (.map (some b)) u.v false).run Try.prog w = .ok ((G u).getD z) w := by
  obtain ⟨D, h, hs⟩ := h
  obtain ⟨v, ps, hrun, hv⟩ := h.lookup lawK ht hz (zd := .held z) (zp := []) rfl (keyK hu)
  obtain ⟨h1, h2⟩ := hs u hu
  rw [hrun]
  cases hG : G u with
  | none =>
    rw [atKey_of_not_has (by rw [h1, hG]; rfl)] at hv
    simp only [heldK, Option.some.injEq, Prod.mk.injEq, DataW.held.injEq] at hv
    rw [hv.1]
    rfl
  | some y =>
    rw [h2 y hG] at hv
    simp only [heldK, Option.some.injEq, Prod.mk.injEq, DataW.held.injEq] at hv
    rw [hv.1]
    rfl
set_option maxRecDepth 100000 in
/-- 'm[u] = v'. -/
theorem MapK.store (h : MapK w b n G) (ht : Try.prog.underlying t = some (.map 59 e)) (hn : n < maxLen) {u : Ky} (hu : u.ok) (v : Value) :
    ∃ w', (Instr.mapUpdate t (.map (some b)) u.v v).run Try.prog w = .ok () w' ∧ MapK w' b (n + 1) (fun x => if x = u then some v else G x) ∧ w.grownBy w' (some b) := by
  obtain ⟨D, h, hs⟩ := h
  obtain ⟨w', hrun, h2, h3⟩ := h.update lawK ht hn (keyK hu) (d := .held v) (ps := []) rfl
  exact ⟨w', hrun, ⟨_, h2, hs.put h.isMap hu v⟩, h3⟩
end
end Go.Proofs.Ytfmloifgngembaa
