/- slices.DeleteFunc of []uint32 over a closure that reads. -/
import Derived.Test.YthdbbappojkmoaaGreatHa
import Derived.Test.YthdbbappojkmoaaGreatHb
import Derived.Lib.SmallJoins
import Derived.WalkSmall
import Derived.Laws.IdiomCopy
import Derived.Deep.Upon
import Derived.Laws.EntriesVeiled
namespace Go.Proofs.YthdbbappojkmoaaGreat
open Go.RowKit

/-- A row of numbers in block b, cap cells long. -/
structure RU (b cap : Nat) (d : List Nat) (W : World) : Prop where
  bk : ∃ cur, W.heap[b]? = some (.cells cur 27 (0, 0)) ∧ cur.size = cap
  sl : ∀ (j x : Nat), d[j]? = some x → W.cell? ⟨b, j, none⟩ = some (.int .u32 (x : Int))
section
variable {b cap : Nat} {d : List Nat} {W W' : World}
theorem RU.lt (h : RU b cap d W) : b < W.heap.size := by
  obtain ⟨cur, h1, _⟩ := h.bk
  exact (Array.getElem?_eq_some_iff.1 h1).1
theorem RU.fz (h : RU b cap d W) (o : Nat) : W.frozen? ⟨b, o, none⟩ = false := by
  obtain ⟨cur, h1, _⟩ := h.bk
  exact Joins.unfrozen_of_block h1 o
/-- It is a row of one's own again. -/
theorem RU.own {B : Nat} (h : RU b cap d W) (hB : B ≤ b) (hd : d.length ≤ cap) (hm : cap ≤ maxLen) : W.ownsRow B 27 1 (.slice (some ⟨b, 0, none⟩) d.length cap) d.length (flatL encU d) := by
  obtain ⟨cur, h1, h2⟩ := h.bk
  refine ⟨by rw [flatL_length encU_len, Nat.mul_one], .inr ⟨b, cap, cur, rfl, hB, h1, hd, hm, by rw [h2, Nat.mul_one], ?_⟩⟩
  have hlen : (flatL encU d).length = d.length := by rw [flatL_length encU_len, Nat.mul_one]
  apply List.ext_getElem?
  intro j
  rw [Nat.mul_one, List.getElem?_take]
  by_cases hj : j < d.length
  · rw [if_pos hj]
    have e1 := h.sl j _ (List.getElem?_eq_getElem hj)
    rw [cell_of_row W b j cur _ _ h1] at e1
    have e2 := flatL_at encU_len d j _ (List.getElem?_eq_getElem hj) 0 _ rfl
    rw [Nat.mul_one, Nat.add_zero] at e2
    rw [e2, Array.getElem?_toList, e1]
  · rw [if_neg hj, List.getElem?_eq_none (by omega)]
theorem RU.at_ (h : RU b cap d W) {j : Nat} (hj : j < d.length) : W.cell? ⟨b, j, none⟩ = some (.int .u32 (d[j] : Int)) := h.sl j _ (List.getElem?_eq_getElem hj)
theorem RU.same (h : RU b cap d W) (hb : W'.heap[b]? = W.heap[b]?) : RU b cap d W' := by
  obtain ⟨cur, h1, h2⟩ := h.bk
  exact ⟨⟨cur, hb.trans h1, h2⟩, fun j x hj => (World.cell?_of_block (a := ⟨b, j, none⟩) hb).trans (h.sl j x hj)⟩
theorem RU.below (h : RU b cap d W) (hb : Below W.heap.size W W') : RU b cap d W' := h.same (hb.block _ h.lt)
theorem RU.slAt (h : RU b cap d W) : SlAt encU 1 W (some ⟨b, 0, none⟩) d := .inr ⟨b, 0, rfl, h.lt, fun j x hj i v hi => by
  have hi1 : i < 1 := by have := (List.getElem?_eq_some_iff.1 hi).1; simpa [encU] using this
  obtain rfl : i = 0 := by omega
  obtain rfl := Option.some.inj hi
  rw [Nat.zero_add, Nat.mul_one]
  exact h.sl j x hj⟩
theorem RU.of_own {base n m c : Nat} {A : Option Addr} (h : W.ownsRow base 27 1 (.slice A m c) n (flatL encU d)) (hn : d.length = n) (h0 : d ≠ []) : ∃ b, A = some ⟨b, 0, none⟩ ∧ base ≤ b ∧ m = n ∧ n ≤ c ∧ c ≤ maxLen ∧ RU b c d W := by
  subst hn
  have hc := h
  rcases h.2 with ⟨_, h2⟩ | ⟨g, cap, cur, h1, h2, h3, h4, h5, h6, _⟩
  · exact absurd (List.eq_nil_of_length_eq_zero h2) h0
  · injection h1 with e1 e2 e3
    subst e1; subst e2; subst e3
    refine ⟨g, rfl, h2, rfl, h4, h5, ⟨cur, h3, by rw [h6, Nat.mul_one]⟩, fun j x hj => ?_⟩
    rcases SlAt.of_own encU_len hc with e | ⟨b, off, hA, _, hx⟩
    · exact absurd e h0
    · injection hA with hA
      injection hA with e1 e2
      subst e1; subst e2
      have := hx j x hj 0 _ rfl
      rwa [Nat.zero_add, Nat.mul_one, Nat.add_zero] at this
theorem stU_kept (W : World) (b o : Nat) (v : Value) : KeptO (fun k => k = b) W (W.setCell ⟨b, o, none⟩ v) := KeptO.of_grown (grown_setCell W b o _) (fun r hr => by cases hr; rfl)
theorem bk_set {cur : Array Value} (h1 : W.heap[b]? = some (.cells cur 27 (0, 0))) (o : Nat) (v : Value) : ∃ cur', (W.setCell ⟨b, o, none⟩ v).heap[b]? = some (.cells cur' 27 (0, 0)) ∧ cur'.size = cur.size :=
  ⟨_, Joins.block_setCell h1 v, by simp⟩
theorem bk_sets : ∀ (vs : List Value) (o : Nat) {W : World} {cur : Array Value}, W.heap[b]? = some (.cells cur 27 (0, 0)) → ∃ cur', (W.setCells b o vs).heap[b]? = some (.cells cur' 27 (0, 0)) ∧ cur'.size = cur.size
  | [], _, _, _, h => ⟨_, h, rfl⟩
  | v :: r, o, W, cur, h => by
    obtain ⟨c1, h1, h2⟩ := bk_set h o v
    obtain ⟨c2, h3, h4⟩ := bk_sets r (o + 1) h1
    exact ⟨c2, h3, h4.trans h2⟩
/-- A number stored in the row. -/
theorem RU.set (h : RU b cap d W) {j : Nat} (hj : j < d.length) (x : Nat) : RU b cap (d.set j x) (W.setCell ⟨b, j, none⟩ (.int .u32 (x : Int))) := by
  have c0 := h.at_ hj
  obtain ⟨cur, h1, h2⟩ := h.bk
  obtain ⟨c', h3, h4⟩ := bk_set h1 j (.int .u32 (x : Int))
  refine ⟨⟨c', h3, h4.trans h2⟩, fun j' y hj' => ?_⟩
  by_cases e : j = j'
  · subst e
    rw [List.getElem?_set_self hj] at hj'
    obtain rfl := Option.some.inj hj'
    exact World.cell?_setCell_same _ _ _ c0
  · rw [List.getElem?_set_ne e] at hj'
    refine (World.cell?_setCell_other _ ⟨b, j, none⟩ ⟨b, j', none⟩ _ ?_).trans (h.sl j' y hj')
    intro e'; simp only [Addr.mk.injEq] at e'; omega
end

/-- 's[i:]' and 's[:i]' of numbers. -/
theorem undU16 : Tryz.prog.underlying 28 = some (.slice (Tryz.prog.elem 28)) := by kernel_rfl
theorem sizeU16 (w : World) : (sizeOf (Tryz.prog.elem 28)).run Tryz.prog w = .ok 1 w := by kernel_rfl
theorem sliceU_h16 (b n c i : Nat) (h : i ≤ c) (W : World) : (Instr.slice 28 (.slice (some ⟨b, 0, none⟩) n c) none (some (.int .i64 i)) none).run Tryz.prog W = .ok (.slice (some ⟨b, 0, none⟩) i c) W := by
  rw [run_slice_h W _ _ n c undU16 .i64 i (by omega) (by omega), sizeU16]
  by_cases h0 : c = 0 <;> simp [Result.andThen, sliced, Addr.add, h0]
theorem sliceU_l16 (b n c i : Nat) (h : i < n) (hc : n ≤ c) (W : World) : (Instr.slice 28 (.slice (some ⟨b, 0, none⟩) n c) (some (.int .i64 i)) none none).run Tryz.prog W = .ok (.slice (some ⟨b, i, none⟩) (n - i) (c - i)) W := by
  rw [run_slice_l W _ _ n c undU16 .i64 i (by omega) (by omega), sizeU16]
  have h1 : ¬ c = i := by omega
  simp [Result.andThen, sliced, Addr.add, h1]
  intro e
  exact e.symm
theorem sliceAtU (x : Value) (lo hi mx : Option Value) (W : World) : (Instr.sliceAt 28 x lo hi mx).run Tryz.prog W = (Instr.slice 28 x lo hi mx).run Tryz.prog W := run_sliceAt_slice W _ _ _ _ _ undU16
theorem keptU_setCells (b : Nat) : ∀ (vs : List Value) (o : Nat) (w : World), KeptO (fun k => k = b) w (w.setCells b o vs)
  | [], _, w => KeptO.refl _ w
  | v :: r, o, w => (KeptO.of_grown (S := fun k => k = b) (grown_setCell w b o v) (fun q e => by cases e; rfl)).trans (keptU_setCells b r (o + 1) _) fun _ e => .inl e
/-- 'clear(s[i:])'. -/
theorem RU.clear {b cap : Nat} {d : List Nat} {W : World} (h : RU b cap d W) (i c : Nat) (hi : i < d.length) (ty : TypeId) :
    ∃ W', (Builtin.clear_ #[28] ty #[.slice (some ⟨b, i, none⟩) (d.length - i) c]).run Tryz.prog W = .ok (.tuple #[]) W' ∧ RU b cap (d.take i) W' ∧ KeptO (fun k => k = b) W W' := by
  obtain ⟨m, hm⟩ : ∃ m, d.length - i = m + 1 := ⟨d.length - i - 1, by omega⟩
  rw [hm]
  generalize hz : (Builtin.zeroCells (Value.int .u32 0).cells (m + 1)).toList = zs
  have hzl : zs.length = m + 1 := by rw [← hz]; simp [Builtin.zeroCells, Value.cells]
  have hz1 : ∀ v ∈ zs, v.oneCell' = true := by
    intro v hv
    rw [← hz] at hv
    simp only [Builtin.zeroCells, Value.cells, Array.toList_map, List.mem_map] at hv
    obtain ⟨q, _, rfl⟩ := hv
    show (#[Value.int .u32 0][q % 1]!).oneCell' = true
    rw [show q % 1 = 0 by omega]
    rfl
  have hin : ∀ j, j < zs.length → (W.cell? ⟨b, i + 0 + j, none⟩).isSome = true := by
    intro j hj
    have hq : i + j < d.length := by omega
    rw [Nat.add_zero, h.at_ hq]
    rfl
  have hst := run_storeCells_cells (P := Tryz.prog) b i zs 0 W hin (fun j _ => h.fz _) hz1
  have K := keptU_setCells b zs (i + 0) W
  obtain ⟨cur, k1, k2⟩ := h.bk
  obtain ⟨c2, k3, k4⟩ := bk_sets zs (i + 0) k1
  refine ⟨W.setCells b (i + 0) zs, ?_, ⟨⟨c2, k3, k4.trans k2⟩, fun j x hj => ?_⟩, ?_⟩
  · simp [Builtin.clear_, run_underlying Tryz.underlying28, hz, hst]
  · rw [List.getElem?_take] at hj
    split at hj
    · next hji =>
      rw [World.cell?_setCells_out b zs _ W ⟨b, j, none⟩ (fun _ _ => .inl (by show j < i + 0; omega))]
      exact h.sl j x hj
    · cases hj
  · exact K
theorem SlAt.num1 {w : World} {A : Option Addr} {l : List Nat} (h : SlAt encU 1 w A l) {j : Nat} (hj : j < l.length) : ∃ b off, A = some ⟨b, off, none⟩ ∧ b < w.heap.size ∧ w.cell? ⟨b, off + j, none⟩ = some (.int .u32 (l[j] : Int)) := by
  rcases h with rfl | ⟨b, off, hA, hlt, hc⟩
  · simp at hj
  · refine ⟨b, off, hA, hlt, ?_⟩
    have := hc j _ (List.getElem?_eq_getElem hj) 0 _ rfl
    rwa [Nat.mul_one, Nat.add_zero] at this
section
variable {F : Nat} {cs : Array Value} {p : Nat → Bool} {KW : World → Prop} {A : Option Addr} {c : Nat} {l : List Nat} {w : World}
set_option maxRecDepth 100000 in
set_option maxHeartbeats 1000000 in
theorem idxU_any (henter : ∀ args w, (callFunc F args).run Tryz.prog w = .ok (.enter F args) w) (hl : l.length ≤ 100000) (hS : SlAt encU 1 w A l) (hK : KW w) (hb : ∀ W W', KW W → Below W.heap.size W W' → KW W')
    (hp : ∀ x ∈ l, ∀ W, KW W → Calls Tryz.prog F (#[.int .u32 (x : Int)] ++ cs) W fun e w' => e = .returned (.bool (p x)) ∧ Below W.heap.size W w') :
    Calls Tryz.prog 41 #[.slice A l.length c, .func (.func F) #[] cs] w fun e w' => Below w.heap.size w w' ∧ ∃ x : Int, e = .returned (.int .i64 x) ∧ ((x = -1 ∧ ∀ y ∈ l, p y = false) ∨ ∃ k : Nat, x = (k : Int) ∧ ∃ hk : k < l.length, p l[k] = true ∧ ∀ j (hj : j < k), p (l[j]'(by omega)) = false) := by
  have HS := Lib.hid hS
  have HK := Lib.hid hK
  have HB := Lib.hid hb
  have HP := Lib.hid hp
  clear hS hK hb hp
  go_enter Tryz.func41, Tryz.ntmps41
  go_wp2_with fail
  go_loopw [8] (fun i wr => ∃ k : Nat, k ≤ l.length ∧ i = .int .i64 k ∧ Hid (∀ j (hj : j < l.length), j < k → p l[j] = false) ∧ Hid (Below w.heap.size w wr)) (fun i _ => l.length - (intOf i).toNat)
  case atStart => exact ⟨0, Nat.zero_le _, rfl, Lib.hid (fun j _ h => absurd h (Nat.not_lt_zero _)), Lib.hid (Below.refl _ _)⟩
  case round =>
    obtain ⟨k, hk, rfl, ha, hB⟩ := hrel
    have hk0 : (0 : Int) ≤ (k : Int) := by omega
    by_cases hlt : k < l.length
    · obtain ⟨b, off, rfl, hb, x0⟩ := (HS.out.below hB.out).num1 hlt
      have hk1 : (k : Int) < (l.length : Int) := by omega
      have C := HP.out l[k] (List.getElem_mem hlt) wr (HB.out _ _ HK.out hB.out)
      cases ht : p l[k] with
      | true =>
        have HN := Lib.hid (show ∃ hk : k < l.length, p l[k] = true ∧ ∀ j (hj : j < k), p (l[j]'(by omega)) = false from ⟨hlt, ht, fun j hj => ha.out j (by omega) hj⟩)
        rw [ht] at C
        have C := Lib.hid C
        clear ht HP
        generalize l[k] = x at *
        go_wp2_with fail
        refine C.out.mono ?_
        rintro e w2 ⟨rfl, hb2⟩
        have HF := Lib.hid (below_next hB.out hb2)
        clear C hb2
        go_wp2_with fail
        go_ret
        exact ⟨HF.out, _, rfl, .inr ⟨k, rfl, HN.out⟩⟩
      | false =>
        have HN := Lib.hid (show ∀ j (hj : j < l.length), j < k + 1 → p l[j] = false by
          intro j hj h
          rcases Nat.lt_or_ge j k with h2 | h2
          · exact ha.out j hj h2
          · obtain rfl : j = k := by omega
            exact ht)
        rw [ht] at C
        have C := Lib.hid C
        clear ht ha HP
        generalize l[k] = x at *
        go_wp2_with fail
        refine C.out.mono ?_
        rintro e w2 ⟨rfl, hb2⟩
        have HF := Lib.hid (below_next hB.out hb2)
        clear C hb2
        go_wp2_with fail
        go_roundw
        case rel => exact ⟨k + 1, by omega, by go_num, HN, HF⟩
        case measure => simp [intOf]; omega
    · obtain rfl : k = l.length := by omega
      have HN := Lib.hid (show ∀ y ∈ l, p y = false from fun y hy => by
        obtain ⟨j, hj, rfl⟩ := List.mem_iff_getElem.1 hy
        exact ha.out j hj hj)
      clear ha HP
      go_wp2_with fail
      go_ret
      exact ⟨hB.out, _, rfl, .inl ⟨rfl, HN.out⟩⟩
end
section
variable {F : Nat} {cs : Array Value} {p : Nat → Bool} {KW : World → Prop} {b c cp : Nat} {l : List Nat} {w : World}
set_option maxRecDepth 100000 in
set_option maxHeartbeats 2000000 in
theorem delU_any (henter : ∀ args w, (callFunc F args).run Tryz.prog w = .ok (.enter F args) w) (hl : l.length ≤ 100000) (hc : l.length ≤ c) (hR : RU b cp l w) (hK : KW w) (hb : ∀ W W', KW W → KeptO (fun k => k = b) W W' → KW W')
    (hp : ∀ x ∈ l, ∀ W, KW W → Calls Tryz.prog F (#[.int .u32 (x : Int)] ++ cs) W fun e w' => e = .returned (.bool (p x)) ∧ Below W.heap.size W w') :
    Calls Tryz.prog 14 #[.slice (some ⟨b, 0, none⟩) l.length c, .func (.func F) #[] cs] w fun e w' => e = .returned (.slice (some ⟨b, 0, none⟩) (l.filter fun x => !p x).length c) ∧ RU b cp (l.filter fun x => !p x) w' ∧ KeptO (fun k => k = b) w w' := by
  have I := Lib.hid (idxU_any (c := c) henter hl hR.slAt hK (fun W W' h k => hb W W' h (KeptO.of_below k)) hp)
  have HR := Lib.hid hR
  have HK := Lib.hid hK
  have HB := Lib.hid hb
  have HP := Lib.hid hp
  clear hR hK hb hp
  go_enter Tryz.func14, Tryz.ntmps14
  go_wp2_with fail
  refine I.out.mono ?_
  rintro e w1 ⟨hb1, x, rfl, hx⟩
  have HB1 := Lib.hid hb1
  clear hb1 I
  rcases hx with ⟨rfl, hx⟩ | ⟨k, rfl, hk, hx, hx2⟩
  · have HE := Lib.hid (show (l.filter fun x => !p x) = l from List.filter_eq_self.2 fun y hy => by simp [hx y hy])
    clear hx
    go_wp2_with fail
    go_ret
    rw [HE.out]
    exact ⟨rfl, HR.out.below HB1.out, KeptO.of_below HB1.out⟩
  · have HT := Lib.hid (show (l.take (k + 1)).filter (fun x => !p x) = l.take k by
      rw [List.take_succ_eq_append_getElem hk, List.filter_append, List.filter_cons_of_neg (by simp [hx]), List.filter_nil, List.append_nil]
      refine List.filter_eq_self.2 fun y hy => ?_
      obtain ⟨j, hj, rfl⟩ := List.mem_iff_getElem.1 hy
      have hj2 : j < k := by rw [List.length_take] at hj; omega
      rw [List.getElem_take]
      simp [hx2 j hj2])
    have hne : ((k : Int) == -1) = false := beq_eq_false_iff_ne.2 (by omega)
    have hk0 : (0 : Int) ≤ (k : Int) := by omega
    clear hx hx2
    go_wp2_with fail
    have hsl := fun (i : Nat) (h : i < l.length) W => sliceU_l16 b l.length c i h hc W
    have hsh := fun (i : Nat) (h : i ≤ c) W => sliceU_h16 b l.length c i h W
    have HSL := Lib.hid hsl
    have HSH := Lib.hid hsh
    have hse := fun x lo hi mx W => sliceAtU x lo hi mx W
    have HKW := Lib.hid (fun W (h : KeptO (fun k => k = b) w W) => HB.out _ _ HK.out h)
    have R1 := Lib.hid (HR.out.below HB1.out)
    have K1 := Lib.hid (KeptO.of_below (S := fun k => k = b) HB1.out)
    clear hsl hsh HR HB1 hne
    go_loopw [5, 6] (fun vi vj wr => ∃ i j : Nat, vi = .int .i64 i ∧ vj = .int .i64 j ∧ i < j ∧ j ≤ l.length ∧ ∃ d : List Nat, Hid (d.length = l.length) ∧ Hid (d.take i = (l.take j).filter (fun x => !p x)) ∧ Hid (d.drop j = l.drop j) ∧ Hid (RU b cp d wr) ∧ Hid (KeptO (fun k => k = b) w wr)) (fun _ vj _ => l.length - (intOf vj).toNat)
    case atStart => exact ⟨k, k + 1, rfl, by go_num, by omega, by omega, l, Lib.hid rfl, Lib.hid HT.out.symm, Lib.hid rfl, R1, K1⟩
    case round =>
      obtain ⟨i, j, rfl, rfl, hij, hj, d, hd, h1, h2, hR, hK⟩ := hrel
      clear R1 K1 HT
      have hi0 : (0 : Int) ≤ (i : Int) := by omega
      have hj0 : (0 : Int) ≤ (j : Int) := by omega
      by_cases hlt : j < l.length
      · have hdj : j < d.length := by rw [hd.out]; exact hlt
        have hdi : i < d.length := by rw [hd.out]; omega
        have hxd : d[j] = l[j] := by
          have := h2.out
          rw [List.drop_eq_getElem_cons hdj, List.drop_eq_getElem_cons hlt] at this
          injection this
        have x0 := hR.out.at_ hdj
        rw [hxd] at x0
        have hj1 : (j : Int) < (l.length : Int) := by omega
        have hi1 : (i : Int) < (l.length : Int) := by omega
        have HD2 := Lib.hid (show d.drop (j + 1) = l.drop (j + 1) from by
          have := h2.out
          rw [List.drop_eq_getElem_cons hdj, List.drop_eq_getElem_cons hlt] at this
          injection this)
        have HFT := Lib.hid (show (l.take (j + 1)).filter (fun x => !p x) = if p l[j] = true then (l.take j).filter (fun x => !p x) else (l.take j).filter (fun x => !p x) ++ [l[j]] from by
          rw [List.take_succ_eq_append_getElem hlt, List.filter_append]
          by_cases e : p l[j] = true
          · rw [if_pos e, List.filter_cons_of_neg (by simp [e]), List.filter_nil, List.append_nil]
          · rw [if_neg e, List.filter_cons_of_pos (by simpa using e), List.filter_nil])
        have C := HP.out l[j] (List.getElem_mem hlt) _ (HKW.out _ hK.out)
        have HKA := Lib.hid hK.out
        have HRA := Lib.hid hR.out
        clear hxd h2 hR hK
        generalize hx : l[j] = x at *
        have HX := Lib.hid hx
        clear hx
        cases ht : p x with
        | true =>
          have HF := Lib.hid (show d.take i = (l.take (j + 1)).filter (fun x => !p x) by rw [h1.out, HFT.out, if_pos ht])
          rw [ht] at C
          have C := Lib.hid C
          clear ht HFT h1
          go_wp2_with fail
          refine C.out.mono ?_
          rintro e w2 ⟨rfl, hb2⟩
          have HK2 := Lib.hid (HKA.out.then_below hb2)
          have HR2 := Lib.hid (HRA.out.below hb2)
          clear C hb2 HKA HRA x0
          go_wp2_with fail
          go_roundw
          case rel => exact ⟨i, j + 1, rfl, by go_num, by omega, by omega, d, hd, HF, HD2, HR2, HK2⟩
          case measure => simp [intOf]; omega
        | false =>
          have HF := Lib.hid (show (d.set i x).take (i + 1) = (l.take (j + 1)).filter (fun x => !p x) by
            rw [HFT.out, if_neg (by simp [ht]), ← h1.out]
            rw [List.take_succ_eq_append_getElem (by rw [List.length_set]; exact hdi), List.getElem_set_self, List.take_set_of_le (Nat.le_refl _)])
          have HD3 := Lib.hid (show (d.set i x).drop (j + 1) = l.drop (j + 1) by rw [List.drop_set_of_lt (by omega)]; exact HD2.out)
          rw [ht] at C
          have C := Lib.hid C
          clear ht HFT h1 HD2
          go_wp2_with fail
          refine C.out.mono ?_
          rintro e w2 ⟨rfl, hb2⟩
          have HK2 := Lib.hid ((HKA.out.then_below hb2).trans (stU_kept w2 b i (.int .u32 (x : Int))) fun _ e => .inl e)
          have hR2 := HRA.out.below hb2
          have z0 := hR2.at_ hdi
          have f0 := hR2.fz i
          have HR2 := Lib.hid (hR2.set hdi x)
          generalize d[i] = y at *
          clear C hb2 HKA HRA x0 hR2
          go_wp2_with fail
          go_roundw
          case rel => exact ⟨i + 1, j + 1, by go_num, by go_num, by omega, by omega, d.set i x, Lib.hid (by rw [List.length_set]; exact hd.out), HF, HD3, HR2, HK2⟩
          case measure => simp [intOf]; omega
      · obtain rfl : j = l.length := by omega
        have hi1 : i < l.length := by omega
        have e1 := HSL.out i hi1
        have e2 := HSH.out i (by omega)
        have HL := Lib.hid (show d.take i = l.filter (fun x => !p x) by rw [h1.out, List.take_length])
        have HLN := Lib.hid (show i = (l.filter fun x => !p x).length by rw [← HL.out, List.length_take, hd.out]; omega)
        obtain ⟨w4, hcl, hR4, hK4⟩ := hR.out.clear i (c - i) (by rw [hd.out]; exact hi1) 0
        rw [hd.out] at hcl
        have HR4 := Lib.hid hR4
        have HK4 := Lib.hid (hK.out.trans hK4 fun _ e => .inl e)
        clear hR4 hK4 hR hK h1 h2 HSL HSH hd hlt HP HKW
        go_wp2_with fail
        go_ret
        exact ⟨congrArg (fun n => Ending.returned (.slice (some ⟨b, 0, none⟩) n c)) HLN.out, by rw [← HL.out]; exact HR4.out, HK4.out⟩
/-- Of nothing. -/
theorem delU_nil {A : Option Addr} {c : Nat} (henter : ∀ args w, (callFunc F args).run Tryz.prog w = .ok (.enter F args) w) (w : World) :
    Calls Tryz.prog 14 #[.slice A 0 c, .func (.func F) #[] cs] w fun e w' => e = .returned (.slice A 0 c) ∧ Below w.heap.size w w' := by
  have I := Lib.hid (idxU_any (cs := cs) (p := fun _ => false) (KW := fun _ => True) (A := A) (c := c) (l := []) (w := w) henter (by simp) (.inl rfl) trivial (fun _ _ _ _ => trivial) (fun x hx => by cases hx))
  clear henter
  go_enter Tryz.func14, Tryz.ntmps14
  go_wp2_with fail
  refine I.out.mono ?_
  rintro e w1 ⟨hb1, x, rfl, hx⟩
  obtain rfl : x = -1 := by
    rcases hx with ⟨e, _⟩ | ⟨k, _, hk, _⟩
    · exact e
    · simp at hk
  have HB1 := Lib.hid hb1
  clear hb1 I hx
  go_wp2_with fail
  go_ret
  exact ⟨rfl, HB1.out⟩
end
end Go.Proofs.YthdbbappojkmoaaGreat
