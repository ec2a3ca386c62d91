/- The table of layer 13: New. -/
import Derived.Test.YthdbbappojkmoaaGreatHp
namespace Go.Proofs.YthdbbappojkmoaaGreat
open Go.RowKit Go.Maps

def encPt (s : Nat) : List Value := [.pointer (some ⟨s, 0, none⟩)]
theorem infoPt : (Tryz.prog.info? 87).map (fun i => (i.zero, i.size, i.bytes)) = some (some (.pointer none), 1, 8) := by kernel_rfl
/-- Stripes made, in blocks ss, their maps in blocks bb; the table in block g holds their row v. -/
structure Mk (B g : Nat) (ss bb : List Nat) (v : Value) (W : World) : Prop where
  len : bb.length = ss.length
  tb : W.heap[g]? = some (Obj.cells #[v] 86)
  row : W.ownsRow B 87 1 v ss.length (flatL encPt ss)
  sn : ss.Nodup
  bn : bb.Nodup
  st : ∀ j s b : Nat, ss[j]? = some s → bb[j]? = some b → W.heap[s]? = some (Obj.cells #[.int .i32 0, .int .u32 0, .map (some b)] 96)
  mp : ∀ b ∈ bb, W.heap[b]? = some (Obj.map #[] 0)
  lo : (∀ s ∈ ss, B ≤ s) ∧ ∀ b ∈ bb, B ≤ b
theorem own_form {W : World} {B n : Nat} {e : TypeId} {v : Value} {xs : List Value} (h : W.ownsRow B e 1 v n xs) : ∀ k, v.ownBlock = some k → ∃ cs fr, W.heap[k]? = some (Obj.cells cs e fr) := by
  intro k hk
  rcases h.2 with ⟨h1, _⟩ | ⟨g, cap, cur, h1, hb, h3, _⟩
  · rw [h1] at hk
    cases hk
  · rw [h1] at hk
    injection hk with hk
    subst hk
    exact ⟨_, _, h3⟩

theorem append_out {W W' : World} {B n b : Nat} {e : TypeId} {v : Value} {xs : List Value} {o : Obj} (h : W.ownsRow B e 1 v n xs) (hg : W.grownBy W' v.ownBlock) (hb : W.heap[b]? = some o) (ho : ∀ cs fr, o ≠ Obj.cells cs e fr) : W'.heap[b]? = some o := by
  refine (hg.block b (Array.getElem?_eq_some_iff.1 hb).1 fun e2 => ?_).trans hb
  obtain ⟨cs, fr, h2⟩ := own_form h b e2.symm
  rw [hb] at h2
  exact ho cs fr (Option.some.inj h2)
theorem Mk.step {B g : Nat} {ss bb : List Nat} {v : Value} {W wz : World} {v' : Value} (h : Mk B g ss bb v W) (hB : B ≤ W.heap.size) (hgB : g < B)
    (hown : wz.ownsRow B 87 1 v' (ss.length + 1) (flatL encPt ss ++ [.pointer (some ⟨W.heap.size + 1, 0, none⟩)]))
    (hg : (((W.alloc (.map #[] 0)).alloc (.cells #[.int .i32 0, .int .u32 0, .map (some W.heap.size)] 96)).alloc (.cells #[.pointer (some ⟨W.heap.size + 1, 0, none⟩)] 87)).grownBy wz v.ownBlock) :
    wz.heap[g]? = some (Obj.cells #[v] 86) ∧ Mk B g (ss ++ [W.heap.size + 1]) (bb ++ [W.heap.size]) v' (wz.setCell ⟨g, 0, none⟩ v') := by
  have hr3 := ((h.row.alloc (.map #[] 0)).alloc (.cells #[.int .i32 0, .int .u32 0, .map (some W.heap.size)] 96)).alloc (.cells #[.pointer (some ⟨W.heap.size + 1, 0, none⟩)] 87)
  have hb3 : Below W.heap.size W (((W.alloc (.map #[] 0)).alloc (.cells #[.int .i32 0, .int .u32 0, .map (some W.heap.size)] 96)).alloc (.cells #[.pointer (some ⟨W.heap.size + 1, 0, none⟩)] 87)) := ((below_al W _).alloc (by simp) _).alloc (by simp; omega) _
  have n0 : (((W.alloc (.map #[] 0)).alloc (.cells #[.int .i32 0, .int .u32 0, .map (some W.heap.size)] 96)).alloc (.cells #[.pointer (some ⟨W.heap.size + 1, 0, none⟩)] 87)).heap[W.heap.size]? = some (.map #[] 0) := by
    rw [Below.heap_alloc _ _ _ (by simp; omega), Below.heap_alloc _ _ _ (by simp)]
    exact heap_alloc_new _ _
  have n1 : (((W.alloc (.map #[] 0)).alloc (.cells #[.int .i32 0, .int .u32 0, .map (some W.heap.size)] 96)).alloc (.cells #[.pointer (some ⟨W.heap.size + 1, 0, none⟩)] 87)).heap[W.heap.size + 1]? = some (.cells #[.int .i32 0, .int .u32 0, .map (some W.heap.size)] 96) := by
    rw [Below.heap_alloc _ _ _ (by simp)]
    exact heap_new1 _ _ (by simp)
  generalize (((W.alloc (.map #[] 0)).alloc (.cells #[.int .i32 0, .int .u32 0, .map (some W.heap.size)] 96)).alloc (.cells #[.pointer (some ⟨W.heap.size + 1, 0, none⟩)] 87)) = W3 at *
  have old : ∀ {b : Nat} {o : Obj}, W.heap[b]? = some o → (∀ cs fr, o ≠ Obj.cells cs 87 fr) → wz.heap[b]? = some o := fun hb ho => append_out hr3 hg ((hb3.block _ (Array.getElem?_eq_some_iff.1 hb).1).trans hb) ho
  have tg := old h.tb (by simp)
  have m0 := append_out hr3 hg n0 (by simp)
  have m1 := append_out hr3 hg n1 (by simp)
  refine ⟨tg, ?_⟩
  have ks := KeptO.set wz g 0 v'
  have hss : ∀ s ∈ ss, ∃ b, wz.heap[s]? = some (Obj.cells #[.int .i32 0, .int .u32 0, .map (some b)] 96) := by
    intro s hs
    obtain ⟨j, hj, rfl⟩ := List.mem_iff_getElem.1 hs
    exact ⟨bb[j]'(by rw [h.len]; exact hj), old (h.st j _ _ (List.getElem?_eq_getElem hj) (List.getElem?_eq_getElem (by rw [h.len]; exact hj))) (by simp)⟩
  have hlt : ∀ {b : Nat} {o : Obj}, W.heap[b]? = some o → b < W.heap.size := fun hb => (Array.getElem?_eq_some_iff.1 hb).1
  have gs : ∀ {s : Nat} {o : Obj}, wz.heap[s]? = some o → (∀ v, o ≠ Obj.cells #[v] 86) → (wz.setCell ⟨g, 0, none⟩ v').heap[s]? = some o := fun {s o} hs ho => ks.heap hs fun e => by
    subst e
    rw [tg] at hs
    exact ho _ (Option.some.inj hs).symm
  refine ⟨by rw [List.length_append, List.length_append, h.len]; rfl, ?_, ?_, ?_, ?_, ?_, ?_, ?_⟩
  · have := Joins.block_setCell (i := 0) tg v'
    simp at this
    exact this
  · rw [List.length_append, flatL_append]
    exact own_keptO hown ks fun k e => by omega
  · rw [List.nodup_append]
    refine ⟨h.sn, by simp, fun a ha b hb => ?_⟩
    rw [List.mem_singleton] at hb
    obtain ⟨j, hj, rfl⟩ := List.mem_iff_getElem.1 ha
    have := hlt (h.st j _ _ (List.getElem?_eq_getElem hj) (List.getElem?_eq_getElem (by rw [h.len]; exact hj)))
    omega
  · rw [List.nodup_append]
    refine ⟨h.bn, by simp, fun a ha b hb => ?_⟩
    rw [List.mem_singleton] at hb
    have := hlt (h.mp a ha)
    omega
  · intro j s b hs hb
    rcases Nat.lt_or_ge j ss.length with hj | hj
    · rw [List.getElem?_append_left hj] at hs
      rw [List.getElem?_append_left (by rw [h.len]; exact hj)] at hb
      exact gs (old (h.st j s b hs hb) (by simp)) (by simp)
    · rw [List.getElem?_append_right hj] at hs
      rw [List.getElem?_append_right (by rw [h.len]; exact hj)] at hb
      have e1 := (List.getElem?_eq_some_iff.1 hs).1
      have e0 : j - ss.length = 0 := by simpa using e1
      rw [h.len, e0] at hb
      rw [e0] at hs
      simp at hs hb
      subst hs
      subst hb
      exact gs m1 (by simp)
  · intro b hb
    rcases List.mem_append.1 hb with hb | hb
    · exact gs (old (h.mp b hb) (by simp)) (by simp)
    · obtain rfl : b = W.heap.size := by simpa using hb
      exact gs m0 (by simp)
  · refine ⟨fun s hs => ?_, fun b hb => ?_⟩
    · rcases List.mem_append.1 hs with hs | hs
      · exact h.lo.1 s hs
      · obtain rfl : s = W.heap.size + 1 := by simpa using hs
        omega
    · rcases List.mem_append.1 hb with hb | hb
      · exact h.lo.2 b hb
      · obtain rfl : b = W.heap.size := by simpa using hb
        omega

set_option maxRecDepth 100000 in
set_option maxHeartbeats 2000000 in
theorem new_go (n : Nat) (hn : 1 ≤ n ∧ n ≤ 16) (w : World) : Calls Tryz.prog 27 #[.int .i64 (n : Int)] w fun e w' => ∃ ss bb v, e = .returned (.pointer (some ⟨w.heap.size, 0, none⟩)) ∧ ss.length = n ∧ Mk (w.heap.size + 1) w.heap.size ss bb v w' ∧ Below w.heap.size w w' := by
  obtain ⟨i0, hi, hz0, hz1, hz2⟩ := info_parts infoPt
  have hmm := @run_makeMap Tryz.prog
  have h1 : ¬ (n : Int) < 1 := by omega
  have h2 : ¬ (16 : Int) < (n : Int) := by omega
  go_enter Tryz.func27, Tryz.ntmps27
  go_wp2_with fail
  have H0 := Lib.hid (show Mk (w.heap.size + 1) w.heap.size [] [] (.slice none 0 0) (w.alloc (.cells #[.slice none 0 0] 86)) from
    ⟨rfl, heap_alloc_new _ _, World.ownsRow_nil _ _ _ _, List.nodup_nil, List.nodup_nil, fun j s b h => (by simp at h), fun b h => (by simp at h), fun b h => (by simp at h), fun b h => (by simp at h)⟩)
  have HB0 := Lib.hid (below_al w (.cells #[.slice none 0 0] 86))
  generalize hg : w.heap.size = g at *
  have HG := Lib.hid hg
  clear hg
  generalize w.alloc _ = w0 at *
  go_loopw [13] (fun i wr => ∃ (ss bb : List Nat) (v : Value), ss.length ≤ n ∧ i = .int .i64 (ss.length : Nat) ∧ Hid (Mk (g + 1) g ss bb v wr) ∧ Hid (Below g w wr)) (fun i _ => n - (intOf i).toNat)
  case atStart => exact ⟨[], [], _, Nat.zero_le _, rfl, H0, HB0⟩
  case round =>
    obtain ⟨ss, bb, v, hk, rfl, HM, HB⟩ := hrel
    clear H0 HB0
    obtain ⟨A, c, rfl⟩ := own_any HM.out.row
    have hlen := Lib.hid (rfl : ss.length = ss.length)
    by_cases hlt : ss.length < n
    · have c0 := cell_of_row _ _ 0 _ _ _ HM.out.tb
      have hgl := (Array.getElem?_eq_some_iff.1 HM.out.tb).1
      have HR := Lib.hid (((HM.out.row.alloc (.map #[] 0)).alloc (.cells #[.int .i32 0, .int .u32 0, .map (some wr.heap.size)] 96)).alloc (.cells #[.pointer (some ⟨wr.heap.size + 1, 0, none⟩)] 87))
      clear hlen
      go_wp2_with (at_builtin; refine wpList_append_own _ rfl _ _ 84 rfl (g + 1) 87 i0 _ 1 8 Tryz.underlying84 hi hz0 hz1 hz2 rfl (by decide) _ _ _ rfl HR.out ⟨wr.heap.size + 1 + 1, 0, none⟩ 1 1 [.pointer (some ⟨wr.heap.size + 1, 0, none⟩)] rfl rfl (cells_one (by simp) _ _) (by intro u hu; simp at hu; subst hu; rfl) (by unfold maxLen; omega) (by omega) (by simp; omega) ?_; intro v' wz hown' hgrow _; obtain ⟨A3, c3, rfl⟩ := own_any hown'; obtain ⟨tg, HM2⟩ := HM.out.step (by omega) (by omega) hown' hgrow; have q0 := (cell_of_row _ _ 0 _ _ _ tg).trans rfl; have q1 := Joins.unfrozen_of_block tg 0)
      have HM3 := Lib.hid HM2
      have K1 : Below g w (((wr.alloc (.map #[] 0)).alloc (.cells #[.int .i32 0, .int .u32 0, .map (some wr.heap.size)] 96)).alloc (.cells #[.pointer (some ⟨wr.heap.size + 1, 0, none⟩)] 87)) := ((HB.out.alloc (by omega) _).alloc (by simp; omega) _).alloc (by simp; omega) _
      have K2 : Below g w wz := K1.grown hgrow (by simp; omega) (fun k hk => by have := (HR.out.lt k hk).1; omega)
      have HB3 := Lib.hid (K2.grown (grown_setCell wz g 0 (.slice A3 (ss.length + 1) c3)) (by have := hgrow.size; simp at this; omega) (fun k hk => by cases hk; omega))
      clear K1 K2 HM2 hown' hgrow tg

      go_roundw
      case rel => exact ⟨_, _, _, by simp; omega, by simp, HM3, HB3⟩
      case measure => simp [intOf]; omega
    · obtain rfl : ss.length = n := by omega
      clear hlen
      go_wp2_with fail
      go_ret
      rw [HG.out]
      exact ⟨ss, bb, _, rfl, rfl, HM.out, HB.out⟩
end Go.Proofs.YthdbbappojkmoaaGreat

namespace Go.Proofs.YthdbbappojkmoaaGreat
open Go.RowKit Go.Maps

theorem MapV.empty {w : World} {b : Nat} (h : w.heap[b]? = some (.map #[] 0)) : MapV w b 0 (fun _ => none) 0 :=
  ⟨.map [], ⟨#[], 0, h, ⟨by simp, MapKept.stamped_empty 0, by simp⟩, Nat.le_refl _, rfl⟩, rfl, fun u _ => ⟨rfl, fun v hv => by cases hv⟩⟩
theorem Mk.table {n g : Nat} {ss bb : List Nat} {v : Value} {w : World} (hn : 1 ≤ n ∧ n ≤ 16) (hl : ss.length = n) (h : Mk (g + 1) g ss bb v w) : ∃ R, TbX R g n (fun k => g ≤ k ∧ k < w.heap.size) (fun _ => none) w := by
  subst hl
  have hrow := h.row
  rcases h.row.2 with ⟨h1, h2⟩ | ⟨r, cap, cur, h1, hb, h3, _⟩
  · omega
  subst h1
  have hs : ∀ i (hi : i < ss.length), w.heap[ss[i]]? = some (.cells #[.int .i32 0, .int .u32 0, .map (some (bb[i]'(by rw [h.len]; exact hi)))] 96) := fun i hi => h.st i _ _ (List.getElem?_eq_getElem hi) (List.getElem?_eq_getElem (by rw [h.len]; exact hi))
  have hbb : ∀ i (hi : i < ss.length), w.heap[bb[i]'(by rw [h.len]; exact hi)]? = some (.map #[] 0) := fun i hi => h.mp _ (List.getElem_mem _)
  have es : ∀ i (hi : i < ss.length), ss.getD i 0 = ss[i] := fun i hi => by rw [List.getD_eq_getElem?_getD, List.getElem?_eq_getElem hi]; rfl
  have eb : ∀ i (hi : i < ss.length), bb.getD i 0 = bb[i]'(by rw [h.len]; exact hi) := fun i hi => by rw [List.getD_eq_getElem?_getD, List.getElem?_eq_getElem (by rw [h.len]; exact hi)]; rfl
  have hlt : ∀ {k : Nat} {o : Obj}, w.heap[k]? = some o → k < w.heap.size := fun hb => (Array.getElem?_eq_some_iff.1 hb).1
  have hne : ∀ {a b : Nat} {o p : Obj}, w.heap[a]? = some o → w.heap[b]? = some p → o ≠ p → a ≠ b := fun ha hb ho e => by
    subst e
    exact ho (Option.some.inj (ha.symm.trans hb))
  refine ⟨⟨r, cap, fun i => ss.getD i 0, fun i => bb.getD i 0⟩, hn, fun k hk => hk.2, ?_, (cell_of_row _ _ 0 _ _ _ h.tb).trans rfl, ?_, ?_, ?_, ?_, ?_, ?_, ?_, fun u x hx => by cases hx⟩
  · rintro k (rfl | rfl | ⟨i, hi, rfl | rfl⟩)
    · exact ⟨Nat.le_refl _, hlt h.tb⟩
    · exact ⟨by omega, hlt h3⟩
    · show g ≤ ss.getD i 0 ∧ ss.getD i 0 < _
      rw [es i hi]
      have := h.lo.1 _ (List.getElem_mem hi)
      exact ⟨by omega, hlt (hs i hi)⟩
    · show g ≤ bb.getD i 0 ∧ bb.getD i 0 < _
      rw [eb i hi]
      have := h.lo.2 (bb[i]'(by rw [h.len]; exact hi)) (List.getElem_mem _)
      exact ⟨by omega, hlt (hbb i hi)⟩
  · intro i hi
    show _ = some (Value.pointer (some ⟨ss.getD i 0, 0, none⟩))
    rw [es i hi]
    rw [show w.cell? ⟨r, i, none⟩ = _ from hrow.cellAt i (by omega)]
    have := flatL_at (enc := encPt) (fun _ => rfl) ss i ss[i] (List.getElem?_eq_getElem hi) 0 _ rfl
    rw [show i * 1 + 0 = i by omega] at this
    exact this
  · intro i hi
    show g ≠ ss.getD i 0 ∧ g ≠ bb.getD i 0 ∧ r ≠ ss.getD i 0 ∧ r ≠ bb.getD i 0
    rw [es i hi, eb i hi]
    exact ⟨hne h.tb (hs i hi) (by simp), hne h.tb (hbb i hi) (by simp), hne h3 (hs i hi) (by simp), hne h3 (hbb i hi) (by simp)⟩
  · intro i j hi hj
    show ss.getD i 0 ≠ bb.getD j 0
    rw [es i hi, eb j hj]
    exact hne (hs i hi) (hbb j hj) (by simp)
  · intro i j hi hj
    show ss.getD i 0 = ss.getD j 0 → _
    rw [es i hi, es j hj]
    exact (List.getElem_inj h.sn).1
  · intro i j hi hj
    show bb.getD i 0 = bb.getD j 0 → _
    rw [eb i hi, eb j hj]
    exact (List.getElem_inj h.bn).1
  · intro i hi
    show Strp (ss.getD i 0) (bb.getD i 0) 0 w
    rw [es i hi, eb i hi]
    exact ⟨hlt (hs i hi), (cell_of_row _ _ 0 _ _ _ (hs i hi)).trans rfl, (cell_of_row _ _ 2 _ _ _ (hs i hi)).trans rfl, Joins.unfrozen_of_block (hs i hi) 0⟩
  · intro i hi
    show ∃ c, MapV w (bb.getD i 0) c _ c
    rw [eb i hi]
    refine ⟨0, (MapV.empty (hbb i hi)).congr fun u _ => ?_⟩
    unfold GX
    split <;> rfl
theorem tnew_any (n : Nat) (hn : 1 ≤ n ∧ n ≤ 16) (w : World) : Calls Tryz.prog 27 #[.int .i64 (n : Int)] w fun e w' => ∃ g S, e = .returned (.pointer (some ⟨g, 0, none⟩)) ∧ Tb g n S [] w' ∧ (∀ k, S k → w.heap.size ≤ k) ∧ Below w.heap.size w w' := by
  refine (new_go n hn w).mono ?_
  rintro e w' ⟨ss, bb, v, rfl, h1, h2, h3⟩
  obtain ⟨R, hR⟩ := h2.table hn h1
  exact ⟨_, _, rfl, ⟨GoodM.nil, R, _, hR, fun u => rfl⟩, fun k hk => hk.1, h3⟩
set_option maxRecDepth 100000 in
theorem tnew_no (n : Int) (hn : ¬ (1 ≤ n ∧ n ≤ 16)) (w : World) : Calls Tryz.prog 27 #[.int .i64 n] w fun e w' => e = .returned (.pointer none) ∧ Below w.heap.size w w' := by
  by_cases h1 : n < 1
  · go_enter Tryz.func27, Tryz.ntmps27
    go_wp2_with fail
    go_ret
    exact ⟨rfl, Below.refl _ _⟩
  · have h2 : (16 : Int) < n := by omega
    clear hn
    go_enter Tryz.func27, Tryz.ntmps27
    go_wp2_with fail
    go_ret
    exact ⟨rfl, Below.refl _ _⟩
end Go.Proofs.YthdbbappojkmoaaGreat
