/- seqset: Parse. -/
import Derived.Test.YthfopimgdikpgaaGreatDoorGs
import Derived.RangeFuncBox
import Derived.Deep.QuietTactic
import Derived.BigQuiet
import Derived.RegionTactic
import Derived.ChangeAlike
import Derived.BigRegion
import Derived.OwnWalk
import Derived.Deep.AppendLies
namespace Go.Proofs.YthfopimgdikpgaaGreatDoor
open Go.RowKit Go.Shelf
attribute [local go_sem] Oper.semAt_some

def rngS (p : SB) : R × Bool := rngP p.1.data.toList
/-- Between two rounds of Parse: the results' boxes, the set's, the iterator's string's. -/
def ParseI (n0 : Nat) (pre : List SB) (W : World) : Prop :=
  Boxed W n0 24 (.slice none 0 0) ∧ Boxed W (n0 + 1) 4 (.bool false) ∧ (∃ u, Boxed W (n0 + 3) 9 u) ∧
    ∃ v, Boxed W (n0 + 2) 24 v ∧ W.ownsRow n0 47 2 v pre.length (flatL encR (pre.map fun p => (rngS p).1)) ∧ ∀ p ∈ pre, (rngS p).2 = true
def ParseX (n0 : Nat) (c : Code) (pre : List SB) (W : World) : Prop :=
  c = .ret ∧ (∃ p ∈ pre, (rngS p).2 = false) ∧ Boxed W n0 24 (.slice none 0 0) ∧ Boxed W (n0 + 1) 4 (.bool false)

theorem parseI_own (n0 : Nat) : Own (ParseI n0) := by
  rintro s X Y row ⟨h1, h2, ⟨u, h3⟩, v, h4, h5, h6⟩ hg hr
  refine ⟨boxed_of h1 hg hr, boxed_of h2 hg hr, ⟨u, boxed_of h3 hg hr⟩, v, boxed_of h4 hg hr, h5.kept hg ?_, h6⟩
  rcases h5.2 with ⟨rfl, _⟩ | ⟨g, cap, cur, rfl, _, hgb, _⟩
  · exact .inl rfl
  · refine .inr fun e' => ?_
    obtain ⟨o, ho, hc⟩ := hr g (by simpa [Value.ownBlock] using e'.symm)
    rw [hgb] at ho
    cases ho
    simp [Obj.isCells] at hc
theorem parseX_own (n0 : Nat) (c : Code) : Own (ParseX n0 c) := by
  rintro s X Y row ⟨h0, h00, h1, h2⟩ hg hr
  exact ⟨h0, h00, boxed_of h1 hg hr, boxed_of h2 hg hr⟩
theorem parseI_writes (n0 : Nat) (s : List SB) (A B : World) (h : ParseI n0 s A) (hw : WritesS (n0 + 3) A B) : ParseI n0 s B := by
  obtain ⟨h1, h2, ⟨u, h3⟩, v, h4, h5, h6⟩ := h
  obtain ⟨_, x, _, rfl⟩ := hw
  have hg := grownBy_setCell' A (n0 + 3) x
  refine ⟨h1.kept hg (by simp), h2.kept hg (by simp), ⟨x, h3.set x⟩, v, h4.kept hg (by simp), h5.kept hg (.inr (h3.not_row (by decide) h5).symm), h6⟩
theorem below_writes {n0 : Nat} {w A B : World} (h : Below n0 w A) (hw : WritesS (n0 + 3) A B) : Below n0 w B := by
  obtain ⟨_, x, _, rfl⟩ := hw
  exact h.setCell (p := ⟨n0 + 3, 0, none⟩) (by simp) _
theorem box_app {w1 w8 : World} {b B n0 : Nat} {t e : TypeId} {u v : Value} {size k : Nat} {xs : List Value} (hb : Boxed w1 b t u) (hte : t ≠ e) (hrow : w1.ownsRow n0 e size v k xs) {o tmp : Obj}
    (hg : ((w1.alloc o).alloc tmp).grownBy w8 v.ownBlock) (hne : b ≠ B) (x : Value) : Boxed (w8.setCell ⟨B, 0, none⟩ x) b t u :=
  (((hb.alloc o).alloc tmp).kept hg (((hb.alloc o).alloc tmp).not_row hte ((hrow.alloc o).alloc tmp))).kept (grownBy_setCell' w8 B x) (by simpa using hne)

set_option maxRecDepth 100000 in
set_option maxHeartbeats 4000000 in
theorem parse_any (s : ByteArray) (hs : s.size ≤ 100000000) (w : World) (henv : Env w) :
    Calls Tryz.prog 102 #[.string s] w fun e w' => ∃ v, e = .returned (.tuple #[v, .bool (parseP s.data.toList).2]) ∧
      w'.ownsRow w.heap.size 47 2 v (parseP s.data.toList).1.length (flatL encR (parseP s.data.toList).1) ∧ Below w.heap.size w w' := by
  have HE := fun w1 (hB : Below w.heap.size w w1) => Lib.hid (henv.below hB)
  clear henv
  obtain ⟨pp, hpp⟩ : ∃ pp, parseP s.data.toList = pp := ⟨_, rfl⟩
  rw [hpp]
  have HPP := Lib.hid hpp
  clear hpp
  obtain ⟨i0, hi, hz0, hz1, hz2⟩ := info_parts infoR
  refine (callsIn_wide (n := 3)).1 ?_
  refine callsIn_of_wp_marks Tryz.func102 rfl trivial ?_ rfl
  simp only [Tryz.ntmps102, List.size_toArray, List.length_cons, List.length_nil, Nat.reduceAdd, Nat.reduceSub, Array.replicate_succ, Array.replicate_zero, List.push_toArray, List.append_toArray, List.nil_append, List.cons_append]
  gi_wp2_with fail
  refine ⟨trivial, ?_⟩
  refine (callsIn_wide.2 (SplitSeq_any _ _ _)).mono ?_
  rintro e w1 ⟨rfl, rfl⟩
  gi_wp2_with fail
  have HB0 : Below w.heap.size w ((((((w.alloc (.cells #[.slice none 0 0] 24)).alloc (.cells #[.bool false] 4)).alloc (.cells #[.slice none 0 0] 24)).alloc (.cells #[.string s] 9)).alloc (.cells #[.string ⟨#[44]⟩] 9)).alloc (.cells #[.int .i64 0] 3)) := by
    repeat (first | exact Below.refl _ _ | refine Below.alloc ?_ (by simp <;> omega) _)
  have B0 := Boxed.new w 24 (.slice none 0 0)
  have B1 := Boxed.new (w.alloc (.cells #[.slice none 0 0] 24)) 4 (.bool false)
  have B2 := Boxed.new ((w.alloc (.cells #[.slice none 0 0] 24)).alloc (.cells #[.bool false] 4)) 24 (.slice none 0 0)
  have B3 := Boxed.new (((w.alloc (.cells #[.slice none 0 0] 24)).alloc (.cells #[.bool false] 4)).alloc (.cells #[.slice none 0 0] 24)) 9 (.string s)
  have B4 := Boxed.new ((((w.alloc (.cells #[.slice none 0 0] 24)).alloc (.cells #[.bool false] 4)).alloc (.cells #[.slice none 0 0] 24)).alloc (.cells #[.string s] 9)) 9 (.string ⟨#[44]⟩)
  have B5 := Boxed.new (((((w.alloc (.cells #[.slice none 0 0] 24)).alloc (.cells #[.bool false] 4)).alloc (.cells #[.slice none 0 0] 24)).alloc (.cells #[.string s] 9)).alloc (.cells #[.string ⟨#[44]⟩] 9)) 3 (.int .i64 0)
  simp only [World.size_alloc, Nat.add_assoc, Nat.reduceAdd] at B1 B2 B3 B4 B5
  have C0 := ((((B0.alloc (.cells #[.bool false] 4)).alloc (.cells #[.slice none 0 0] 24)).alloc (.cells #[.string s] 9)).alloc (.cells #[.string ⟨#[44]⟩] 9)).alloc (.cells #[.int .i64 0] 3)
  have C1 := (((B1.alloc (.cells #[.slice none 0 0] 24)).alloc (.cells #[.string s] 9)).alloc (.cells #[.string ⟨#[44]⟩] 9)).alloc (.cells #[.int .i64 0] 3)
  have C2 := ((B2.alloc (.cells #[.string s] 9)).alloc (.cells #[.string ⟨#[44]⟩] 9)).alloc (.cells #[.int .i64 0] 3)
  have C3 := (B3.alloc (.cells #[.string ⟨#[44]⟩] 9)).alloc (.cells #[.int .i64 0] 3)
  have C4 := B4.alloc (.cells #[.int .i64 0] 3)
  have hsz : w.heap.size + 6 ≤ ((((((w.alloc (.cells #[.slice none 0 0] 24)).alloc (.cells #[.bool false] 4)).alloc (.cells #[.slice none 0 0] 24)).alloc (.cells #[.string s] 9)).alloc (.cells #[.string ⟨#[44]⟩] 9)).alloc (.cells #[.int .i64 0] 3)).heap.size := by simp
  generalize (((((w.alloc (.cells #[.slice none 0 0] 24)).alloc (.cells #[.bool false] 4)).alloc (.cells #[.slice none 0 0] 24)).alloc (.cells #[.string s] 9)).alloc (.cells #[.string ⟨#[44]⟩] 9)).alloc (.cells #[.int .i64 0] 3) = W0 at *
  clear B0 B1 B2 B3 B4
  have hsl := splitL_len 44 s.data.toList
  have hss : s.data.toList.length ≤ 100000000 := by rw [Array.length_toList]; exact hs
  refine wpIn_rangeFunc_it rfl (by omega) (gf := 136) (lb := #[.pointer (some ⟨w.heap.size + 4, 0, none⟩), .pointer (some ⟨w.heap.size + 3, 0, none⟩), .pointer (some ⟨w.heap.size + 5, 0, none⟩)]) rfl trivial (enters_of Tryz.func136 (by kernel_rfl) rfl)
    (split_does 2 (by omega) (w.heap.size + 4) (w.heap.size + 3) (w.heap.size + 5) 44 s (by omega) W0 C4 C3 B5 (by omega)) (fun h k => keepsS_t h k) (fun W l o o' h1 h2 h3 h4 => ⟨keepsT_b (w := W0) W l o o' h1 h2 h3 h4, keepsT_b (w := W0) W l o o' h1 h2 h3 h4⟩)
    (fun X Y i o hw ho hc => by
      obtain ⟨_, u, hbx, rfl⟩ := hw
      by_cases hi3 : i = w.heap.size + 3
      · subst hi3
        rw [show X.heap[w.heap.size + 3]? = _ from hbx] at ho
        cases ho
        simp [Obj.isCells] at hc
      · exact (Below.heap_setCell X ⟨w.heap.size + 3, 0, none⟩ u i hi3).trans ho)
    (Below.refl _ _) (fun _ => rfl)
    (fun pre W => ParseI w.heap.size pre W ∧ Below w.heap.size w W)
    (fun c pre W => ParseX w.heap.size c pre W ∧ Below w.heap.size w W)
    (OwnFrom.and (Own.from (parseI_own _) _) (ownFrom_below (Nat.le_refl _) (by omega)))
    (fun c => OwnFrom.and (Own.from (parseX_own _ c) _) (ownFrom_below (Nat.le_refl _) (by omega)))
    (fun s A B h hw => ⟨parseI_writes _ s A B h.1 hw, below_writes h.2 hw⟩)
    ⟨⟨C0, C1, ⟨_, C3⟩, _, C2, World.ownsRow_nil _ _ _ _, by simp⟩, HB0⟩
    ?a1 ?assign ?body ?done ?stop
  case assign =>
    intro l x W K hK
    gi_wp2
    exact hK
  case body =>
    rintro l pre x W ⟨⟨h1, h2, ⟨u3, h3⟩, v, h4, h5, h6⟩, hB⟩ hlt
    have PR := Lib.hid (parseRange_any x.1 (by have := x.2; omega) W (HE W hB).out)
    have hxr : rngS x = rngP x.1.data.toList := rfl
    rw [← hxr] at PR
    have HXR : rngS x = ((rngS x).1, (rngS x).2) := rfl
    have hpl : pre.length ≤ 100000001 := by omega
    have H6 := Lib.hid h6
    clear hxr h6 HXR
    have HIX : ∀ r : R × Bool, rngS x = r → Hid (rngS x = r) := fun r h => Lib.hid h
    generalize hrx : rngS x = r at PR
    have HR := Lib.hid hrx
    clear HIX hrx
    obtain ⟨⟨lo, hi'⟩, ok⟩ := r
    dsimp only at PR
    gi_wp2_with fail
    refine ⟨trivial, ?_⟩
    refine (CallsIn.inRound l (callsIn_wide.2 PR.out)).mono ?_
    rintro e w1 ⟨rfl, hb1⟩
    have b1 := Boxed.behind h1 hb1
    have b2 := Boxed.behind h2 hb1
    have b3 := Boxed.behind h3 hb1
    have b4 := Boxed.behind h4 hb1
    have o1 := own_below h5 hb1
    have hB1 := hB.trans (hb1.mono hB.size)
    have hKO := keepsO_below hb1
    have hk1 : KeepsS W w1 := ⟨(KeepsT.refl _ W).below hb1, (KeepsT.refl _ W).below hb1⟩
    have hs1 := hB1.size
    clear PR h1 h2 h3 h4 h5 hb1 hB
    have q1 : w.heap.size < w1.heap.size := b1.lt
    have q2 : w.heap.size + 1 < w1.heap.size := b2.lt
    have q4 : w.heap.size + 1 + 1 < w1.heap.size := b4.lt
    cases ok with
    | false =>
      have c1 := b1.cell
      have f1 := b1.frozen
      have c2 := b2.cell
      have f2 := b2.frozen
      gi_wp2_with fail
      have HK := hKO.trans (((KeepsOthers.setCell w1 ⟨w.heap.size, 0, none⟩ (.slice none 0 0)).trans (KeepsOthers.setCell _ ⟨w.heap.size + 1, 0, none⟩ (.bool false))).trans (KeepsOthers.alloc _ (.cells #[.int .u32 (lo : Int), .int .u32 (hi' : Int)] 47)))
      exact ⟨HK.from _, ⟨rfl, ⟨x, by simp, by rw [HR.out]⟩, ((b1.set _).kept (grownBy_setCell' _ _ _) (by simp)).alloc _, ((b2.kept (grownBy_setCell' _ _ _) (by simp)).set _).alloc _⟩, ((hB1.setCell (p := ⟨w.heap.size, 0, none⟩) (Nat.le_refl _) _).setCell (p := ⟨w.heap.size + 1, 0, none⟩) (by simp) _).alloc (by simp; omega) _⟩
    | true =>
      have c4 : w1.cell? ⟨w.heap.size + 1 + 1, 0, none⟩ = some v := b4.cell
      have f4 : w1.frozen? ⟨w.heap.size + 1 + 1, 0, none⟩ = false := b4.frozen
      gi_wp2_with (gi_at_builtin; refine wpListIn_append_own _ rfl _ _ 24 rfl w.heap.size 47 i0 _ 2 8 Tryz.underlying24 hi hz0 hz1 hz2 rfl (by decide) _ _ _ rfl ((o1.alloc _).alloc _) ⟨w1.heap.size + 1, 0, none⟩ 1 1 [.int .u32 (lo : Int), .int .u32 (hi' : Int)] rfl rfl (cells_new2 (by simp) _ _ _) (by intro u hu; simp at hu; rcases hu with rfl | rfl <;> rfl) (by unfold maxLen; omega) (by omega) (by simp; omega) ?_; intro v' w8 hown' hgrow _; obtain ⟨g', cap', rfl⟩ := ownsRow_succ hown'; obtain ⟨hv1, hv2, hr2, hk2, hb2⟩ := (b4.alloc _).appended (by decide) (o1.alloc _) (by simp; omega) (by simp) hown' hgrow; have hc1 : w8.cell? ⟨w.heap.size + 1 + 1, 0, none⟩ = some v := hv1.cell; have hf1 : w8.frozen? ⟨w.heap.size + 1 + 1, 0, none⟩ = false := hv1.frozen)
      have HK := (hKO.trans ((KeepsOthers.alloc w1 (.cells #[.int .u32 (lo : Int), .int .u32 (hi' : Int)] 47)).trans hk2)).from W0.heap.size
      have HT : ∀ T, T ≠ 47 → T ≠ 24 → KeepsT T W w1 → KeepsT T W (w8.setCell ⟨w.heap.size + 2, 0, none⟩ (.slice (some ⟨g', 0, none⟩) (pre.length + 1) cap')) := fun T t1 t2 hk =>
        keepsT_t (hk.alloc _) ((KeepsT.app (o1.alloc _) t1.symm hgrow).set_ hv1 t2.symm _)
      exact ⟨HK, ⟨HT _ (by decide) (by decide) hk1.1, HT _ (by decide) (by decide) hk1.2⟩,
        ⟨box_app b1 (by decide) o1 hgrow (by omega) _, box_app b2 (by decide) o1 hgrow (by omega) _, ⟨_, box_app b3 (by decide) o1 hgrow (by omega) _⟩, _, hv2, by simpa [flatL, encR, HR.out] using hr2, fun p hp => by
          rcases List.mem_append.1 hp with hp | hp
          · exact H6.out p hp
          · obtain rfl : p = x := by simpa using hp
            rw [HR.out]⟩, (hB1.alloc hs1 _).trans hb2⟩
  case done =>
    rintro D ys W hD hys ⟨⟨h1, h2, -, v, h4, h5, h6⟩, hB⟩ hK
    have hys' : (splitL 44 s.data.toList) = ys.map (fun s => s.1.data.toList) := hys.symm
    have hP : parseP s.data.toList = (ys.map (fun p => (rngS p).1), true) := by
      unfold parseP
      rw [hys', if_pos (by
        rw [List.all_map, List.all_eq_true]
        exact fun p hp => h6 p hp), List.map_map]
      rfl
    rw [HPP.out] at hP
    obtain ⟨A', c', rfl⟩ := own_any h5
    have c1 := h1.cell
    have f1 := h1.frozen
    have c2 := h2.cell
    have f2 := h2.frozen
    have c4 : W.cell? ⟨w.heap.size + 1 + 1, 0, none⟩ = some (.slice A' ys.length c') := h4.cell
    subst hP
    clear hys hys' h6 HPP
    have q1 : w.heap.size < W.heap.size := h1.lt
    gi_wp2
    have hK2 := (KeepsOthers.setCell (W.setCell ⟨w.heap.size, 0, none⟩ (.slice A' ys.length c')) ⟨w.heap.size + 1, 0, none⟩ (.bool true)).same D _ ((KeepsOthers.setCell W ⟨w.heap.size, 0, none⟩ (.slice A' ys.length c')).same D _ hK rfl) rfl
    have b1 := (h1.set (.slice A' ys.length c')).kept (grownBy_setCell' _ (w.heap.size + 1) (.bool true)) (by simp)
    have b2 := (h2.kept (grownBy_setCell' W w.heap.size (.slice A' ys.length c')) (by simp)).set (.bool true)
    have o1 := (h5.kept (grownBy_setCell' W w.heap.size (.slice A' ys.length c')) (.inr (h1.not_row (by decide) h5).symm)).kept (grownBy_setCell' _ (w.heap.size + 1) (.bool true)) (.inr (by
      have := h2.not_row (by decide) h5
      exact this.symm))
    have hB2 := (hB.setCell (p := ⟨w.heap.size, 0, none⟩) (Nat.le_refl _) (.slice A' ys.length c')).setCell (p := ⟨w.heap.size + 1, 0, none⟩) (by simp) (.bool true)
    have hD2 : w.heap.size ≤ D := by omega
    refine ⟨by simp, .inl ⟨_, _, rfl, run_takeDeferred hK2, ?_⟩⟩
    have d1 := (boxed_of b1 (grownBy_putObj' _ D (.deferred none)) (fun r e => by cases e; exact ⟨_, hK2, rfl⟩)).cell
    have d2 := (boxed_of b2 (grownBy_putObj' _ D (.deferred none)) (fun r e => by cases e; exact ⟨_, hK2, rfl⟩)).cell
    refine ⟨.tuple #[.slice A' ys.length c', .bool true], ?_, .slice A' ys.length c', rfl, ?_, ?_⟩
    · simp [results, Tryz.f102, go_sem, d1, d2]
    · exact ownsRow_putObj o1 _ hK2 rfl
    · exact hB2.trans (belowK_b (w := w) (Nat.le_refl _) _ D _ _ hD2 hK2 rfl rfl)
  case stop =>
    rintro D c pre W hD ⟨rest, hrest⟩ ⟨⟨rfl, ⟨p, hp, hbad⟩, h1, h2⟩, hB⟩ hK
    have hP : parseP s.data.toList = ([], false) := by
      unfold parseP
      rw [if_neg]
      rw [← hrest, List.all_append, List.all_map]
      intro h
      rw [Bool.and_eq_true, List.all_eq_true] at h
      have := h.1 p hp
      have hb2 : (rngP p.1.data.toList).2 = false := hbad
      simp [hb2] at this
    rw [HPP.out] at hP
    subst hP
    clear HPP
    gi_wp2
    have hD2 : w.heap.size ≤ D := by omega
    refine ⟨by simp, .inl ⟨_, _, rfl, run_takeDeferred hK, ?_⟩⟩
    have d1 := (boxed_of h1 (grownBy_putObj' _ D (.deferred none)) (fun r e => by cases e; exact ⟨_, hK, rfl⟩)).cell
    have d2 := (boxed_of h2 (grownBy_putObj' _ D (.deferred none)) (fun r e => by cases e; exact ⟨_, hK, rfl⟩)).cell
    refine ⟨.tuple #[.slice none 0 0, .bool false], ?_, .slice none 0 0, rfl, World.ownsRow_nil _ _ _ _, ?_⟩
    · simp [results, Tryz.f102, go_sem, d1, d2]
    · exact hB.trans (belowK_b (w := w) (Nat.le_refl _) _ D _ _ hD2 hK rfl rfl)
end Go.Proofs.YthfopimgdikpgaaGreatDoor
