/- frame: search. -/
import Derived.Test.YtldlghfjinpnkaaDoorSpl
import Derived.Test.YtldlghfjinpnkaaDoorShelfI
import Derived.Deep.QuietTactic
import Derived.BigQuiet
import Derived.Deep.RegionWith
import Derived.Deep.DeepCutAuto
import Derived.Lib.SlBytesConst
namespace Go.Proofs.YtldlghfjinpnkaaDoor
open Go.RowKit

/-- The numbers of bytes. -/
def numsB (l : List UInt8) : List Int := l.map fun x => (x.toNat : Int)
theorem numsB_len (l : List UInt8) : (numsB l).length = l.length := by simp [numsB]
theorem numsB_of (l : List UInt8) : Lib.bytesOf (numsB l) = l := by
  unfold Lib.bytesOf numsB
  rw [List.map_map]
  conv => rhs; rw [← List.map_id l]
  refine List.map_congr_left fun x _ => ?_
  simp
theorem numsB_rng (l : List UInt8) : ∀ x ∈ numsB l, 0 ≤ x ∧ x < 256 := fun x hx => by
  obtain ⟨b, _, rfl⟩ := List.mem_map.1 hx
  have := b.toNat_lt
  omega
theorem numsB_at (l : List UInt8) (i : Nat) (h : i < l.length) : (numsB l).getD i 0 = (l[i].toNat : Int) := by
  unfold numsB
  rw [List.getD_eq_getElem?_getD, List.getElem?_map, List.getElem?_eq_getElem h]
  rfl

theorem index_any (B : Nat) (A : Option Addr) (c n : Nat) (l : List UInt8) (hn : l.length = n) (hl : n ≤ 1000000000) (q : Nat) (w : World) (hA : ByAt B w A c l) (hnil : A = none → c = 0) (h0 : w.cell? ⟨q, 0, none⟩ = some (.int .u8 13)) (h1 : w.cell? ⟨q, 1, none⟩ = some (.int .u8 10)) (hm : ∃ m, w.cell? ⟨0, 0, none⟩ = some (.int .i64 m)) :
    Calls Tryd.prog 44 #[.slice A n c, .slice (some ⟨q, 0, none⟩) 2 2] w fun e w' => e = .returned (.int .i64 (Lib.index l [13, 10])) ∧ Below w.heap.size w w' := by
  subst hn
  obtain ⟨m, hm⟩ := hm
  rcases A with _ | a
  · obtain rfl : l = [] := by
      rcases hA.lies with h | ⟨_, _, he, _⟩
      · exact h
      · cases he
    obtain rfl := hnil rfl
    refine (Any.bytes_Index_nil { Tryd.laysM185 with } (some ⟨q, 0, none⟩) 2 2 w (by omega) (by omega)).mono ?_
    rintro e w' ⟨rfl, hw⟩
    subst hw
    exact ⟨rfl, Below.refl _ _⟩
  · have := Any.bytes_Index_at { Tryd.laysM185 with } a ⟨q, 0, none⟩ l.length c 2 2 (numsB l) [13, 10] m w (numsB_len l) rfl (numsB_rng l) (by simp)
      (fun i hi => by
        rw [numsB_at l i hi]
        obtain ⟨b, off, he, _, _, hc⟩ := hA.cell hi
        obtain rfl := Option.some.inj he
        rw [Addr.add_lit]
        exact hc)
      (fun i hi => by
        rw [Addr.add_lit, Nat.zero_add]
        match i, hi with
        | 0, _ => exact h0
        | 1, _ => exact h1)
      hA.le (by omega) (by omega) hm
    rw [numsB_of] at this
    refine this.mono ?_
    rintro e w' ⟨rfl, k, rfl⟩
    exact ⟨rfl, drewN_below _ _⟩

theorem occ_mark (l : List UInt8) (i : Nat) : Lib.occAt l [13, 10] i = decide (Mark l i) := by
  unfold Lib.occAt
  rw [Bool.eq_iff_iff, List.isPrefixOf_iff_prefix, decide_eq_true_eq]
  unfold Mark
  constructor
  · rintro ⟨t, ht⟩
    have h0 : (l.drop i)[0]? = some 13 := by rw [← ht]; rfl
    have h1 : (l.drop i)[1]? = some 10 := by rw [← ht]; rfl
    rw [List.getElem?_drop] at h0 h1
    exact ⟨h0, h1⟩
  · rintro ⟨h0, h1⟩
    obtain ⟨k1, e1⟩ := List.getElem?_eq_some_iff.1 h1
    obtain ⟨k0, e0⟩ := List.getElem?_eq_some_iff.1 h0
    refine ⟨l.drop (i + 2), ?_⟩
    rw [List.drop_eq_getElem_cons k0, List.drop_eq_getElem_cons k1, e0, e1]
    rfl
theorem mark_drop (l : List UInt8) (k i : Nat) : Mark (l.drop k) i ↔ Mark l (k + i) := by
  unfold Mark
  rw [List.getElem?_drop, List.getElem?_drop, ← Nat.add_assoc]
theorem index_end (l : List UInt8) (k : Nat) : (∃ e, endOf l k = some e ∧ Lib.index (l.drop k) [13, 10] = ((e - k : Nat) : Int)) ∨ (endOf l k = none ∧ Lib.index (l.drop k) [13, 10] = -1) := by
  rcases Lib.index_spec (l.drop k) [13, 10] with ⟨h1, h2⟩ | ⟨i, h1, h2, h3, h4⟩
  · refine .inr ⟨endOf_none.2 fun j hj hm => ?_, h1⟩
    have := h2 (j - k) (by have := hm.lt; rw [List.length_drop]; omega)
    rw [occ_mark, decide_eq_false_iff_not, mark_drop, show k + (j - k) = j by omega] at this
    exact this hm
  · rw [occ_mark, decide_eq_true_eq, mark_drop] at h3
    refine .inl ⟨k + i, endOf_some.2 ⟨by omega, h3, fun j hj hji hm => ?_⟩, ?_⟩
    · have := h4 (j - k) (by omega)
      rw [occ_mark, decide_eq_false_iff_not, mark_drop, show k + (j - k) = j by omega] at this
      exact this hm
    · rw [h1]
      congr 1
      omega

/-- '[]byte' of a constant, behind a draw or none. -/
theorem conv0 (w : World) (C : Array Value) (n c : Nat) : (convert 26 26 (.slice (some ⟨w.heap.size, 0, none⟩) n c)).run Tryd.prog (w.alloc (.cells C 5)) = .ok (.slice (some ⟨w.heap.size, 0, none⟩) n c) (w.alloc (.cells C 5 (C.size, C.size + 1))) :=
  Lib.run_convert_bytes_const (P := Tryd.prog) w 26 5 C n c Tryd.underlying26 Tryd.underlying5
theorem conv1 (w : World) (C : Array Value) (n c : Nat) : (convert 26 26 (.slice (some ⟨w.heap.size, 0, none⟩) n c)).run Tryd.prog (w.alloc (.cells C 5)).drew = .ok (.slice (some ⟨w.heap.size, 0, none⟩) n c) (w.alloc (.cells C 5 (C.size, C.size + 1))).drew := conv0 w.drew C n c
theorem conv2 (w : World) (C : Array Value) (n c : Nat) : (convert 26 26 (.slice (some ⟨w.heap.size, 0, none⟩) n c)).run Tryd.prog (w.alloc (.cells C 5)).drew.drew = .ok (.slice (some ⟨w.heap.size, 0, none⟩) n c) (w.alloc (.cells C 5 (C.size, C.size + 1))).drew.drew := conv0 w.drew.drew C n c
theorem row_cell (w : World) (C : Array Value) (t : TypeId) (fr : Nat × Nat) (j : Nat) : (w.alloc (.cells C t fr)).cell? ⟨w.heap.size, j, none⟩ = C[j]? := Joins.cell_alloc_mark_at w C t fr _ j rfl
theorem belDrawN {B : Nat} {a x : World} (h : Below B a x) (n : Nat) : Below B a (x.drewN n) := h.trans ⟨rfl, rfl, rfl, Nat.le_refl _, fun _ _ => rfl⟩
theorem belAlloc {a x : World} (h : Below a.heap.size a x) (o : Obj) : Below a.heap.size a (x.alloc o) := below_next h (below_al x o)
theorem keep2 {w W : World} {b i j : Nat} {u v : Value} (hlt : b < w.heap.size) (h0 : w.cell? ⟨b, i, none⟩ = some u) (h2 : w.cell? ⟨b, j, none⟩ = some v) (h : Below w.heap.size w W) : W.cell? ⟨b, i, none⟩ = some u ∧ W.cell? ⟨b, j, none⟩ = some v ∧ Below w.heap.size w W :=
  ⟨(h.cell (p := ⟨b, i, none⟩) hlt).trans h0, (h.cell (p := ⟨b, j, none⟩) hlt).trans h2, h⟩
/-- What search answers. -/
def SePost (bs : Nat) (A : Option Addr) (n c : Nat) (ln : Int) (a : Nat) (dr : Int) (fn : Value) (R : List UInt8) (w : World) (e' : Ending) (w' : World) : Prop :=
  (∃ e : Nat, endOf R a = some e ∧ e' = .returned (.bool true) ∧ Raw bs A n c ln (e : Int) dr fn w' ∧ w.grownBy w' (some bs)) ∨
  (∃ m : Nat, endOf R a = none ∧ e' = .returned (.bool false) ∧ Raw bs A n c ln (m : Int) dr fn w' ∧ w.grownBy w' (some bs) ∧ a ≤ m ∧ m ≤ n ∧ (m = a ∨ m + 1 = n))

set_option maxRecDepth 100000 in
set_option maxHeartbeats 1000000 in
theorem search_any (B bs g c : Nat) (A : Option Addr) (R : List UInt8) (ln dr : Int) (fn : Value) (a n : Nat) (hn : R.length = n) (ha : a ≤ n) (hR : n ≤ 1000000) (w : World) (hw : B ≤ w.heap.size) (henv : EnvB B w) (hb : BRow g w A c R) (h : Raw bs A n c ln (a : Int) dr fn w) :
    Calls Tryd.prog 32 #[.pointer (some ⟨bs, 0, none⟩)] w (SePost bs A n c ln a dr fn R w) := by
  have hle := hb.le
  have hI := index_end R a
  have hd := hb.drop (k := a) (by omega)
  have hnil : offA A c a = none → c - a = 0 := fun e => by
    rcases hd.lies with ⟨_, h0⟩ | ⟨_, _, h0, _⟩
    · exact h0
    · rw [h0] at e
      cases e
  generalize hX : Lib.index (R.drop a) [13, 10] = x at hI
  have IX : ∀ W q, Below w.heap.size w W → W.cell? ⟨q, 0, none⟩ = some (.int .u8 13) → W.cell? ⟨q, 1, none⟩ = some (.int .u8 10) → Calls Tryd.prog 44 #[.slice (offA A c a) (n - a) (c - a), .slice (some ⟨q, 0, none⟩) 2 2] W fun e' w' => e' = .returned (.int .i64 x) ∧ Below w.heap.size w w' := fun W q hW h0 h1 => by
    have := index_any W.heap.size (offA A c a) (c - a) (n - a) (R.drop a) (by rw [List.length_drop]; omega) (by omega) q W (hd.by.grow hW).here hnil h0 h1 (henv.below (hW.mono hw)).mx
    rw [hX] at this
    refine this.mono ?_
    rintro e' w' ⟨rfl, hb⟩
    exact ⟨rfl, below_next hW hb⟩
  have IX := Lib.hid IX
  have HI := Lib.hid hI
  have c0 := h.c0
  have c2 := h.c2
  have hsl := fun W => slice_l A n c a (by omega) W
  have hse := fun x lo hi mx W => sliceAt_eq x lo hi mx W
  have kc0 := conv0
  have kc1 := conv1
  have kc2 := conv2
  have HH := Lib.hid h
  have hbs := h.lt
  clear hI henv hb h hX hd hnil
  go_enter Tryd.func32, Tryd.ntmps32
  go_upto_region 1 with fail
  go_cut [3] (fun s3 wx => s3 = .int .i64 x ∧ Hid (Below w.heap.size w wx))
  case first =>
    go_region_with (go_at_call 44; refine (IX.out _ _ (by repeat (first | assumption | exact Below.refl _ _ | refine belDrawN ?_ _ | refine belDraw ?_ | refine belAlloc ?_ _)) (by first | rfl | exact row_cell _ _ _ _ _) (by first | rfl | exact row_cell _ _ _ _ _)).mono ?_; rintro e' w1 ⟨rfl, hb1⟩)
    all_goals (go_wp2_with fail; go_meet; exact ⟨rfl, hb1⟩)
  case rest =>
    obtain ⟨rfl, hB⟩ := hcut
    clear IX kc0 kc1 kc2 hsl hse c0 c2
    have H1 := Lib.hid (HH.out.grow hB.out)
    have HG := Lib.hid (grown_of_below (row := some bs) hB.out)
    have c0 := H1.out.c0
    have c2 := H1.out.c2
    have f2 := H1.out.fz 2
    rcases HI.out with ⟨e, he, hx⟩ | ⟨he, hx⟩
    · subst hx
      have hlt := endOf_lt he
      have e1 : ((a : Int) + ((e - a : Nat) : Int)) = (e : Int) := by omega
      have HE := Lib.hid he
      have HS := Lib.hid (H1.out.set2 (e : Int))
      have HS2 := Lib.hid (grown_set HG.out 2 (.int .i64 (e : Int)))
      have hd : decide ((0 : Int) ≤ ((e - a : Nat) : Int)) = true := by simp
      have b1 : ((e - a : Nat) : Int) ≤ 1000000 := by omega
      have b0 : (0 : Int) ≤ ((e - a : Nat) : Int) := by omega
      rw [← e1] at HS HS2
      have E1 := Lib.hid e1
      clear he HI HH H1 HG hB e1
      generalize ((e - a : Nat) : Int) = d at *
      go_wp2_with fail
      go_ret
      exact Or.inl ⟨e, HE.out, rfl, E1.out ▸ HS.out, E1.out ▸ HS2.out⟩
    · subst hx
      have hM : ∃ m : Nat, max (a : Int) ((n : Int) - 1) = (m : Int) ∧ a ≤ m ∧ m ≤ n ∧ (m = a ∨ m + 1 = n) := by
        rcases Nat.lt_or_ge a (n - 1) with h | h
        · exact ⟨n - 1, by omega, by omega, by omega, by omega⟩
        · exact ⟨a, by omega, by omega, by omega, by omega⟩
      have HM := Lib.hid hM
      have HE := Lib.hid he
      clear he hM
      go_wp2_with fail
      go_region
      obtain ⟨m, hm, h1, h2, h3⟩ := HM.out
      rw [hm]
      have HS := Lib.hid (H1.out.set2 (m : Int)).drew
      have HS2 := Lib.hid ((grown_set HG.out 2 (.int .i64 (m : Int))).trans (grown_of_below (belDraw (Below.refl _ _))))
      clear hm HI HH H1 HG hB
      go_wp2_with fail
      go_ret
      exact Or.inr ⟨m, HE.out, rfl, HS.out, HS2.out, h1, h2, h3⟩
end Go.Proofs.YtldlghfjinpnkaaDoor
