/- slices.Concat of bytes; the walk of the law TokenParts. -/
import Derived.Test.YtpklpfncohdlhaaDoorShelfG
import Derived.Test.YtpklpfncohdlhaaDoorBy
import Derived.Test.YtpklpfncohdlhaaDoorKeeps
import Derived.Test.YtpklpfncohdlhaaDoorAppStr
import Derived.Test.YtpklpfncohdlhaaDoorTkAlive
import Derived.Test.YtpklpfncohdlhaaDoorRefTok
import Derived.Deep.QuietTactic
import Derived.BigQuiet
namespace Go.Proofs.YtpklpfncohdlhaaDoor
open Go.RowKit

theorem growB_any (n : Nat) (hn : n ≤ 1000000) (w : World) :
    Calls Tryd.prog 29 #[.slice none 0 0, .int .i64 n] w fun e w' => ∃ v, e = .returned v ∧ w'.ownsRow w.heap.size 5 1 v 0 [] ∧ Below w.heap.size w w' := by
  obtain ⟨i0, hi, hz0, hz1, hz2⟩ := info_parts infoByte
  by_cases h0 : n = 0
  · subst h0
    refine (Any8.slices_Grow_room Tryd.laysGrow none 0 0 0 w (Nat.le_refl _) (by omega) (by omega) (by omega)).mono ?_
    rintro e w' ⟨rfl, rfl⟩
    exact ⟨_, rfl, World.ownsRow_nil _ _ _ _, Below.refl _ _⟩
  · refine (Any8.slices_Grow_grow Tryd.laysGrow i0 _ hi hz0 (by omega) none 0 0 n [] w (Nat.le_refl _) (by omega) (by rw [hz2]; omega) (by omega) (by simp) (fun _ => rfl) (fun a h => by cases h)).mono ?_
    rintro e w' ⟨rfl, rfl⟩
    refine ⟨_, rfl, ?_, ?_⟩
    · refine World.ownsRow_made w.drew _ _ (Nat.le_refl _) (grownCap_le_maxLen _ _ _ _ (by unfold maxLen; omega)) ?_
      have := grownCap_ge w (0 + n) 0 (Tryd.laysGrow_ren.t 25)
      simp only [List.size_toArray, List.length_nil, Array.size_append, size_zeroCells]
      show 0 + (0 + n - 0) * 1 + (grownCap w (0 + n) 0 (Tryd.laysGrow_ren.t 25) - (0 + n)) * 1 = _
      omega
    · exact (show Below w.heap.size w w.drew from ⟨rfl, rfl, rfl, Nat.le_refl _, fun _ _ => rfl⟩).alloc (Nat.le_refl _) _

set_option maxRecDepth 100000 in
set_option maxHeartbeats 4000000 in
theorem concat2_any (g : Nat) (A1 A2 : Option Addr) (c1 c2 : Nat) (l1 l2 : List UInt8) (hl1 : l1.length ≤ 100000) (hl2 : l2.length ≤ 100000) (w : World)
    (h0 : w.cell? ⟨g, 0, none⟩ = some (.slice A1 l1.length c1)) (h1 : w.cell? ⟨g, 1, none⟩ = some (.slice A2 l2.length c2)) (hg : g < w.heap.size) (hA1 : ByAt w.heap.size w A1 c1 l1) (hA2 : ByAt w.heap.size w A2 c2 l2) :
    Calls Tryd.prog 16 #[.slice (some ⟨g, 0, none⟩) 2 2] w fun e w' => ∃ A' c', e = .returned (.slice A' (l1 ++ l2).length c') ∧ ByAt w'.heap.size w' A' c' (l1 ++ l2) ∧ Below w.heap.size w w' := by
  obtain ⟨i0, hi, hz0, hz1, hz2⟩ := info_parts infoByte
  have G := Lib.hid (growB_any (l1.length + l2.length) (by omega) w)
  have HA := Lib.hid hA1
  have HB := Lib.hid hA2
  have h0' := Lib.hid h0
  have h1' := Lib.hid h1
  clear hA1 hA2
  go_enter Tryd.func16, Tryd.ntmps16
  go_wp2_with fail
  refine wp_loop_rounds 3 ?_
  rw [rounds_succ]
  go_wp2_with fail
  rw [rounds_succ]
  go_wp2_with fail
  rw [rounds_succ]
  go_wp2_with fail
  refine G.out.mono ?_
  rintro e w1 ⟨v, rfl, hv, h1B⟩
  obtain ⟨Av, cv, rfl⟩ := own_any hv
  have hB1 := h1B
  have h0w : w1.cell? ⟨g, 0, none⟩ = some (.slice A1 l1.length c1) := (h1B.cell hg).trans h0'.out
  have HA1 := Lib.hid (HA.out.below h1B)
  clear G h0' HA
  go_wp2_with fail
  refine wp_loop_rounds 3 ?_
  rw [rounds_succ]
  go_wp2_with (at_builtin; refine wpList_append_sl _ rfl _ _ 22 rfl w.heap.size 5 i0 _ 1 Tryd.underlying22 hi hz0 hz1 hz2 rfl (by decide) _ 0 [] rfl hv A1 l1 c1 rfl encB_len HA1.out.sl (one_flatB l1) (by unfold maxLen; omega) (by omega) h1B.size ?_; intro v2 w2 hv2 hg2)
  have hB2 := hB1.grown hg2 hB1.size (fun k hk => (hv.lt k hk).1)
  have h1w : w2.cell? ⟨g, 1, none⟩ = some (.slice A2 l2.length c2) := (hB2.cell hg).trans h1'.out
  have HB2 := Lib.hid (HB.out.below hB2)
  clear h1' HB HA1 hg2 hB1 h1B h0w hv
  rw [Nat.zero_add, List.nil_append] at hv2
  rw [rounds_succ]
  go_wp2_with (at_builtin; refine wpList_append_sl _ rfl _ _ 22 rfl w.heap.size 5 i0 _ 1 Tryd.underlying22 hi hz0 hz1 hz2 rfl (by decide) _ l1.length (flatL encB l1) rfl hv2 A2 l2 c2 rfl encB_len HB2.out.sl (one_flatB l2) (by unfold maxLen; omega) (by omega) hB2.size ?_; intro v3 w3 hv3 hg3)
  have hB3 := hB2.grown hg3 hB2.size (fun k hk => (hv2.lt k hk).1)
  clear HB2 hg3 hB2 h1w hv2
  rw [← flatL_append, ← List.length_append] at hv3
  obtain ⟨A3, c3, rfl⟩ := own_any hv3
  rw [rounds_succ]
  have HV := Lib.hid hv3
  clear hv3
  go_wp2_with fail
  go_ret
  exact ⟨_, _, rfl, ByAt.of_own HV.out, hB3⟩

set_option maxRecDepth 100000 in
set_option maxHeartbeats 4000000 in
theorem concat3_any (g : Nat) (A1 A2 A3 : Option Addr) (c1 c2 c3 : Nat) (l1 l2 l3 : List UInt8) (hl1 : l1.length ≤ 100000) (hl2 : l2.length ≤ 100000) (hl3 : l3.length ≤ 100000) (w : World)
    (h0 : w.cell? ⟨g, 0, none⟩ = some (.slice A1 l1.length c1)) (h1 : w.cell? ⟨g, 1, none⟩ = some (.slice A2 l2.length c2)) (h2 : w.cell? ⟨g, 2, none⟩ = some (.slice A3 l3.length c3)) (hg : g < w.heap.size)
    (hA1 : ByAt w.heap.size w A1 c1 l1) (hA2 : ByAt w.heap.size w A2 c2 l2) (hA3 : ByAt w.heap.size w A3 c3 l3) :
    Calls Tryd.prog 16 #[.slice (some ⟨g, 0, none⟩) 3 3] w fun e w' => ∃ A' c', e = .returned (.slice A' (l1 ++ l2 ++ l3).length c') ∧ ByAt w'.heap.size w' A' c' (l1 ++ l2 ++ l3) ∧ Below w.heap.size w w' := by
  obtain ⟨i0, hi, hz0, hz1, hz2⟩ := info_parts infoByte
  have G := Lib.hid (growB_any (l1.length + l2.length + l3.length) (by omega) w)
  have HA := Lib.hid hA1
  have HB := Lib.hid hA2
  have HC := Lib.hid hA3
  have h0' := Lib.hid h0
  have h1' := Lib.hid h1
  have h2' := Lib.hid h2
  clear hA1 hA2 hA3
  obtain ⟨l12, hl12⟩ : ∃ l12, l1 ++ l2 = l12 := ⟨_, rfl⟩
  have hl12n : l12.length ≤ 200000 := by rw [← hl12, List.length_append]; omega
  rw [hl12]
  have HL12 := Lib.hid hl12
  clear hl12
  go_enter Tryd.func16, Tryd.ntmps16
  go_wp2_with fail
  refine wp_loop_rounds 4 ?_
  rw [rounds_succ]
  go_wp2_with fail
  rw [rounds_succ]
  go_wp2_with fail
  rw [rounds_succ]
  go_wp2_with fail
  rw [rounds_succ]
  go_wp2_with fail
  refine G.out.mono ?_
  rintro e w1 ⟨v, rfl, hv, h1B⟩
  obtain ⟨Av, cv, rfl⟩ := own_any hv
  have hB1 := h1B
  have h0w : w1.cell? ⟨g, 0, none⟩ = some (.slice A1 l1.length c1) := (h1B.cell hg).trans h0'.out
  have HA1 := Lib.hid (HA.out.below h1B)
  clear G h0' HA
  go_wp2_with fail
  refine wp_loop_rounds 4 ?_
  rw [rounds_succ]
  go_wp2_with (at_builtin; refine wpList_append_sl _ rfl _ _ 22 rfl w.heap.size 5 i0 _ 1 Tryd.underlying22 hi hz0 hz1 hz2 rfl (by decide) _ 0 [] rfl hv A1 l1 c1 rfl encB_len HA1.out.sl (one_flatB l1) (by unfold maxLen; omega) (by omega) h1B.size ?_; intro v2 w2 hv2 hg2)
  have hB2 := hB1.grown hg2 hB1.size (fun k hk => (hv.lt k hk).1)
  have h1w : w2.cell? ⟨g, 1, none⟩ = some (.slice A2 l2.length c2) := (hB2.cell hg).trans h1'.out
  have HB2 := Lib.hid (HB.out.below hB2)
  clear h1' HB HA1 hg2 hB1 h1B h0w hv
  rw [Nat.zero_add, List.nil_append] at hv2
  rw [rounds_succ]
  go_wp2_with (at_builtin; refine wpList_append_sl _ rfl _ _ 22 rfl w.heap.size 5 i0 _ 1 Tryd.underlying22 hi hz0 hz1 hz2 rfl (by decide) _ l1.length (flatL encB l1) rfl hv2 A2 l2 c2 rfl encB_len HB2.out.sl (one_flatB l2) (by unfold maxLen; omega) (by omega) hB2.size ?_; intro v3 w3 hv3 hg3)
  have hB3 := hB2.grown hg3 hB2.size (fun k hk => (hv2.lt k hk).1)
  have h2w : w3.cell? ⟨g, 2, none⟩ = some (.slice A3 l3.length c3) := (hB3.cell hg).trans h2'.out
  have HC3 := Lib.hid (HC.out.below hB3)
  clear HB2 hg3 hB2 h1w hv2 h2' HC
  rw [← flatL_append, ← List.length_append] at hv3
  rw [HL12.out] at hv3
  obtain ⟨Ax, cx, rfl⟩ := own_any hv3
  rw [rounds_succ]
  go_wp2_with (at_builtin; refine wpList_append_sl _ rfl _ _ 22 rfl w.heap.size 5 i0 _ 1 Tryd.underlying22 hi hz0 hz1 hz2 rfl (by decide) _ l12.length (flatL encB l12) rfl hv3 A3 l3 c3 rfl encB_len HC3.out.sl (one_flatB l3) (by unfold maxLen; omega) (by omega) hB3.size ?_; intro v4 w4 hv4 hg4)
  have hB4 := hB3.grown hg4 hB3.size (fun k hk => (hv3.lt k hk).1)
  clear HC3 hg4 hB3 h2w hv3
  rw [← flatL_append, ← List.length_append] at hv4
  obtain ⟨Ay, cy, rfl⟩ := own_any hv4
  rw [rounds_succ]
  have HV := Lib.hid hv4
  clear hv4
  go_wp2_with fail
  go_ret
  exact ⟨_, _, rfl, ByAt.of_own HV.out, hB4⟩

theorem tk_get {w : World} {A : Option Addr} {ts : List Tok} (h : SlAt encT 3 w A ts) {j : Nat} {t : Tok} (hj : ts[j]? = some t) :
    ∃ b off, A = some ⟨b, off, none⟩ ∧ b < w.heap.size ∧ w.cell? ⟨b, off + j * 3, none⟩ = some (.int .i64 (t.kind : Int)) ∧ w.cell? ⟨b, off + j * 3 + 1, none⟩ = some (.string ⟨t.text.toArray⟩) ∧ w.cell? ⟨b, off + j * 3 + 2, none⟩ = some (.int .i64 (t.at_ : Int)) := by
  obtain ⟨hlt, rfl⟩ := List.getElem?_eq_some_iff.1 hj
  exact tk_at h hlt
theorem cell_new1 (w : World) (O : Obj) (C : Array Value) (T : TypeId) (j : Nat) : ((w.alloc O).alloc (.cells C T)).cell? ⟨w.heap.size + 1, j, none⟩ = C[j]? := by
  have := Joins.cell_alloc_mark_at (w.alloc O) C T (0, 0) (w.heap.size + 1) j (by rw [World.size_alloc])
  exact this
theorem byAt_lit1 (w : World) (x : UInt8) (fr : Nat × Nat) : ByAt (w.heap.size + 1) (w.alloc (.cells #[.int .u8 (x.toNat : Int)] 5 fr)) (some ⟨w.heap.size, 0, none⟩) 1 [x] := byAt_litT w [x] _ rfl 5 fr
/-- The tokens of the whole. -/
theorem parts_toks {a b : List UInt8} {ts1 ts2 : List Tok} (h1 : IsToks a ts1 (-1)) (h2 : IsToks b ts2 (-1)) :
    ∃ us, ts1.length = us.length + 1 ∧ (∀ i, i < us.length → ts1[i]? = us[i]?) ∧ IsToks (a ++ [32] ++ b) (us ++ ⟨1, [], a.length⟩ :: ts2.map (shT (a.length + 1))) (-1) := by
  rcases h1 with ⟨us, hu, rfl, _⟩ | ⟨_, _, _, _, _, _, e⟩
  · rcases h2 with ⟨vs, hv, rfl, _⟩ | ⟨_, _, _, _, _, _, e⟩
    · refine ⟨us, by simp, fun i hi => List.getElem?_append_left hi, .inl ⟨us ++ ⟨1, [], a.length⟩ :: vs.map (shT (a.length + 1)), ?_, ?_, rfl⟩⟩
      · have := toks_parts hu hv
        simpa using this
      · simp [shT]
        omega
    · omega
  · omega

set_option maxRecDepth 100000 in
set_option maxHeartbeats 4000000 in
theorem tokenParts_big (A A2 : Option Addr) (c c2 : Nat) (la lb : List UInt8) (hl : la.length ≤ maxLen) (hl2 : lb.length ≤ maxLen) (hbig : 1000 < la.length ∨ 1000 < lb.length) (w : World) (henv : Env w) (hA : ByAt w.heap.size w A c la) (hA2 : ByAt w.heap.size w A2 c2 lb) :
    Calls Tryd.prog 6 #[.slice A la.length c, .slice A2 lb.length c2] w fun e w' => e = .returned (.bool true) ∧ Below w.heap.size w w' := by
  have AL := Lib.hid (fun w1 (hB : Below w.heap.size w w1) => alive6_any w1 (henv.below hB))
  have hle := hA.le
  have hle2 := hA2.le
  have ta : (la.take (min la.length 1000)).length = min la.length 1000 := by rw [List.length_take]; omega
  have tb : (lb.take (min lb.length 1000)).length = min lb.length 1000 := by rw [List.length_take]; omega
  have R1 := refTokens_any _ c A _ (by omega) w (hA.take (hi := min la.length 1000) (by omega))
  have R2 := fun (w1 : World) (hB : Below w.heap.size w w1) => refTokens_any _ c2 A2 _ (by omega) w1 ((hA2.below hB).take (hi := min lb.length 1000) (by omega))
  rw [ta] at R1
  rw [tb] at R2
  replace R1 := Lib.hid R1
  replace R2 := Lib.hid R2
  unfold maxLen at hl hl2
  obtain ⟨ma, hma⟩ : ∃ m, min la.length 1000 = m := ⟨_, rfl⟩
  obtain ⟨mb, hmb⟩ : ∃ m, min lb.length 1000 = m := ⟨_, rfl⟩
  rw [hma] at R1
  rw [hmb] at R2
  have hsl1 := fun W => slice_h A la.length c ma (by omega) W
  have hsl2 := fun W => slice_h A2 lb.length c2 mb (by omega) W
  have hse := fun x lo hi mx W => sliceAt_eq x lo hi mx W
  have m1 : min (la.length : Int) 1000 = (ma : Int) := by omega
  have m2 : min (lb.length : Int) 1000 = (mb : Int) := by omega
  clear hA hA2 henv ta tb hma hmb
  generalize la.length = na at *
  generalize lb.length = nb at *
  go_enter Tryd.func6, Tryd.ntmps6
  by_cases h1 : 1000 < na
  · have d1 : decide ((1000 : Int) < (na : Int)) = true := by simp; omega
    clear hbig
    go_wp2_with fail
    refine R1.out.mono ?_
    rintro e w1 ⟨v1, ts1, x1, rfl, _, _, hb1⟩
    have HB1 := Lib.hid hb1
    have R2 := Lib.hid (R2.out _ hb1)
    clear hb1 R1
    go_wp2_with fail
    refine R2.out.mono ?_
    rintro e w2 ⟨v2, ts2, x2, rfl, _, _, hb2⟩
    have HB2 := Lib.hid (below_next HB1.out hb2)
    have AL := Lib.hid (AL.out _ HB2.out)
    clear hb2 R2
    go_wp2_with fail
    refine AL.out.mono ?_
    rintro e w3 ⟨rfl, hb3⟩
    have HB3 := Lib.hid (below_next HB2.out hb3)
    clear hb3
    go_wp2_with fail
    go_ret
    exact ⟨rfl, HB3.out⟩
  · have d1 : decide ((1000 : Int) < (na : Int)) = false := by simp; omega
    have d2 : decide ((1000 : Int) < (nb : Int)) = true := by simp; omega
    clear hbig
    go_wp2_with fail
    refine R1.out.mono ?_
    rintro e w1 ⟨v1, ts1, x1, rfl, _, _, hb1⟩
    have HB1 := Lib.hid hb1
    have R2 := Lib.hid (R2.out _ hb1)
    clear hb1 R1
    go_wp2_with fail
    refine R2.out.mono ?_
    rintro e w2 ⟨v2, ts2, x2, rfl, _, _, hb2⟩
    have HB2 := Lib.hid (below_next HB1.out hb2)
    have AL := Lib.hid (AL.out _ HB2.out)
    clear hb2 R2
    go_wp2_with fail
    refine AL.out.mono ?_
    rintro e w3 ⟨rfl, hb3⟩
    have HB3 := Lib.hid (below_next HB2.out hb3)
    clear hb3
    go_wp2_with fail
    go_ret
    exact ⟨rfl, HB3.out⟩

/-- Place by place. -/
theorem parts_at {us ts1 ts2 : List Tok} {d n1 n2 : Nat} (h1 : ts1.length = us.length + 1) (hn1 : ts1.length = n1) (hn2 : ts2.length = n2) (hu : ∀ i, i < us.length → ts1[i]? = us[i]?) (i : Nat) (hi : i < n1 + n2) :
    (i + 1 < n1 ∧ ∃ T, (us ++ ⟨1, [], d⟩ :: ts2.map (shT (d + 1)))[i]? = some T ∧ ts1[i]? = some T) ∨ (i + 1 = n1 ∧ (us ++ ⟨1, [], d⟩ :: ts2.map (shT (d + 1)))[i]? = some ⟨1, [], d⟩) ∨
    (∃ j T, i = n1 + j ∧ j < n2 ∧ ts2[j]? = some T ∧ (us ++ ⟨1, [], d⟩ :: ts2.map (shT (d + 1)))[i]? = some ⟨T.kind, T.text, T.at_ + (d + 1)⟩) := by
  rcases Nat.lt_trichotomy i us.length with h | h | h
  · refine .inl ⟨by omega, us[i], ?_, ?_⟩
    · rw [List.getElem?_append_left h, List.getElem?_eq_getElem h]
    · rw [hu i h, List.getElem?_eq_getElem h]
  · subst h
    exact .inr (.inl ⟨by omega, by rw [List.getElem?_append_right (Nat.le_refl _), Nat.sub_self]; rfl⟩)
  · have hj : i - n1 < ts2.length := by omega
    refine .inr (.inr ⟨i - n1, ts2[i - n1], by omega, by omega, List.getElem?_eq_getElem hj, ?_⟩)
    rw [List.getElem?_append_right (by omega), show i - us.length = (i - n1) + 1 by omega, List.getElem?_cons_succ, List.getElem?_map, List.getElem?_eq_getElem hj]
    rfl

set_option maxRecDepth 100000 in
set_option maxHeartbeats 8000000 in
theorem tokenParts_small (A A2 : Option Addr) (c c2 : Nat) (la lb : List UInt8) (hl : la.length ≤ 1000) (hl2 : lb.length ≤ 1000) (w : World) (henv : Env w) (hA : ByAt w.heap.size w A c la) (hA2 : ByAt w.heap.size w A2 c2 lb) :
    Calls Tryd.prog 6 #[.slice A la.length c, .slice A2 lb.length c2] w fun e w' => e = .returned (.bool true) ∧ Below w.heap.size w w' := by
  have AL := Lib.hid (fun w1 (hB : Below w.heap.size w w1) => alive6_any w1 (henv.below hB))
  have HE := Lib.hid (fun w1 (hB : Below w.heap.size w w1) => henv.below hB)
  have hle := hA.le
  have hle2 := hA2.le
  have R1 := Lib.hid (refTokens_any _ c A la (by omega) w hA)
  have R2 := Lib.hid (fun (w1 : World) (hB : Below w.heap.size w w1) => refTokens_any _ c2 A2 lb (by omega) w1 (hA2.below hB))
  have hsl1 := fun W => slice_h A la.length c la.length (by omega) W
  have hsl2 := fun W => slice_h A2 lb.length c2 lb.length (by omega) W
  have hse := fun x lo hi mx W => sliceAt_eq x lo hi mx W
  have m1 : min (la.length : Int) 1000 = (la.length : Int) := by omega
  have m2 : min (lb.length : Int) 1000 = (lb.length : Int) := by omega
  have HA := Lib.hid hA
  have HA2 := Lib.hid hA2
  have C3 := fun g A1 A2 A3 c1 c2 c3 w h0 h1' h2' hg a1 a2 a3 => concat3_any g A1 A2 A3 c1 c2 c3 la [32] lb (by omega) (by simp) (by omega) w h0 h1' h2' hg a1 a2 a3
  have HPT := Lib.hid (fun ts1 ts2 h1 h2 => parts_toks (a := la) (b := lb) (ts1 := ts1) (ts2 := ts2) h1 h2)
  have hLl : (la ++ [32] ++ lb).length ≤ 2001 := by simp; omega
  obtain ⟨na, hna⟩ : ∃ n, la.length = n := ⟨_, rfl⟩
  obtain ⟨nb, hnb⟩ : ∃ n, lb.length = n := ⟨_, rfl⟩
  obtain ⟨L, hL⟩ : ∃ L, la ++ [32] ++ lb = L := ⟨_, rfl⟩
  rw [hL] at C3 HPT hLl
  rw [hna] at C3 HPT R1 hsl1 m1 hl hle
  rw [hnb] at C3 R2 hsl2 m2 hl2 hle2
  rw [hna, hnb]
  have HNA := Lib.hid hna
  have HNB := Lib.hid hnb
  have C3 := Lib.hid C3
  have d1 : decide ((1000 : Int) < (na : Int)) = false := by simp; omega
  have d2 : decide ((1000 : Int) < (nb : Int)) = false := by simp; omega
  have kc := fun W n c => conv32 W n c
  clear hA hA2 henv hna hnb hL
  go_enter Tryd.func6, Tryd.ntmps6
  go_wp2_with fail
  refine R1.out.mono ?_
  rintro e w1 ⟨v1, ts1, x1, rfl, ho1, hit1, hb1⟩
  obtain ⟨A4, c4, rfl⟩ := own_any ho1
  have HB1 := Lib.hid hb1
  have HS1 := Lib.hid (tk_sl ho1)
  have HI1 := Lib.hid hit1
  have R2 := Lib.hid (R2.out _ hb1)
  have hn1 := hit1.len
  rw [HNA.out] at hn1
  obtain ⟨n1, hn1e⟩ : ∃ n, ts1.length = n := ⟨_, rfl⟩
  rw [hn1e] at hn1
  rw [hn1e]
  have HN1 := Lib.hid hn1e
  clear hb1 R1 ho1 hit1 hn1e
  go_wp2_with fail
  refine R2.out.mono ?_
  rintro e w2 ⟨v2, ts2, x2, rfl, ho2, hit2, hb2⟩
  obtain ⟨A5, c5, rfl⟩ := own_any ho2
  have HB2 := Lib.hid (below_next HB1.out hb2)
  have HS12 := Lib.hid (HS1.out.below hb2)
  have HS2 := Lib.hid (tk_sl ho2)
  have HI2 := Lib.hid hit2
  have hn2 := hit2.len
  rw [HNB.out] at hn2
  obtain ⟨n2, hn2e⟩ : ∃ n, ts2.length = n := ⟨_, rfl⟩
  rw [hn2e] at hn2
  rw [hn2e]
  have HN2 := Lib.hid hn2e
  clear hb2 R2 ho2 hit2 hn2e HS1
  by_cases hx1 : 0 ≤ x1
  · have d3 : decide (0 ≤ x1) = true := by simp [hx1]
    have AL := Lib.hid (AL.out _ HB2.out)
    go_wp2_with fail
    refine AL.out.mono ?_
    rintro e w3 ⟨rfl, hb3⟩
    have HB3 := Lib.hid (below_next HB2.out hb3)
    clear hb3
    go_wp2_with fail
    go_ret
    exact ⟨rfl, HB3.out⟩
  have d3 : decide (0 ≤ x1) = false := by simp; omega
  by_cases hx2 : 0 ≤ x2
  · have d4 : decide (0 ≤ x2) = true := by simp [hx2]
    have AL := Lib.hid (AL.out _ HB2.out)
    go_wp2_with fail
    refine AL.out.mono ?_
    rintro e w3 ⟨rfl, hb3⟩
    have HB3 := Lib.hid (below_next HB2.out hb3)
    clear hb3
    go_wp2_with fail
    go_ret
    exact ⟨rfl, HB3.out⟩
  have d4 : decide (0 ≤ x2) = false := by simp; omega
  obtain rfl : x1 = -1 := by omega
  obtain rfl : x2 = -1 := by omega
  obtain ⟨us, hu1, hu2, hit⟩ := HPT.out ts1 ts2 HI1.out HI2.out
  have HIT := Lib.hid hit
  have HPA := Lib.hid (fun i hi => parts_at (d := na) hu1 HN1.out HN2.out hu2 i hi)
  have hlen3 : (us ++ ⟨1, [], na⟩ :: ts2.map (shT (na + 1))).length = n1 + n2 := by
    rw [← HN1.out, ← HN2.out, hu1]
    simp
    omega
  have HL3 := Lib.hid hlen3
  have h1n : 1 ≤ n1 := by rw [← HN1.out, hu1]; omega
  clear hit hu1 hu2 hlen3 HPT hx1 hx2
  have K0 := below_al w2 (.cells #[.int .u8 32] 5 (1, 2))
  have K1 := belAlloc K0 (.cells #[.slice A na c, .slice (some ⟨w2.heap.size, 0, none⟩) 1 1, .slice A2 nb c2] 22)
  have C := C3.out (w2.heap.size + 1) A (some ⟨w2.heap.size, 0, none⟩) A2 c 1 c2 ((w2.alloc (.cells #[.int .u8 32] 5 (1, 2))).alloc (.cells #[.slice A na c, .slice (some ⟨w2.heap.size, 0, none⟩) 1 1, .slice A2 nb c2] 22))
    (cell_new1 _ _ _ _ 0) (cell_new1 _ _ _ _ 1) (cell_new1 _ _ _ _ 2) (by simp) ((HA.out.below (HB2.out.trans (K1.mono HB2.out.size))).here) (((byAt_lit1 w2 32 (1, 2)).grow (below_al _ _)).here) ((HA2.out.below (HB2.out.trans (K1.mono HB2.out.size))).here)
  have C := Lib.hid C
  have HK := Lib.hid K1
  clear K0 K1 C3
  go_wp2_with fail
  refine C.out.mono ?_
  rintro e w3 ⟨A6, c6, rfl, hby, hb3⟩
  have hb23 := below_next HK.out hb3
  have HB3 := Lib.hid (below_next HB2.out hb23)
  have TK := Lib.hid (tokens_any _ c6 A6 L (by omega) w3 (HE.out _ HB3.out) hby)
  have HB23 := Lib.hid hb23
  obtain ⟨nl, hnl⟩ : ∃ n, L.length = n := ⟨_, rfl⟩
  rw [hnl] at TK
  rw [hnl]
  clear hb3 hby hb23 hnl C
  go_wp2_with fail
  refine TK.out.mono ?_
  intro e w4 hp
  obtain ⟨v3, he, ho3, hb4⟩ := toks_is hp HIT.out
  subst he
  rw [HL3.out] at ho3
  obtain ⟨A7, c7, rfl⟩ := own_any ho3
  have ho3' : w4.ownsRow w3.heap.size 38 3 (.slice A7 (n1 + n2) c7) (us ++ ⟨1, [], na⟩ :: ts2.map (shT (na + 1))).length (flatL encT (us ++ ⟨1, [], na⟩ :: ts2.map (shT (na + 1)))) := by rw [HL3.out]; exact ho3
  have HS3 := Lib.hid (tk_sl ho3')
  have HB4 := Lib.hid (below_next HB3.out hb4)
  have hb24 := below_next HB23.out hb4
  have HS14 := Lib.hid (HS12.out.below hb24)
  have HS24 := Lib.hid (HS2.out.below hb24)
  obtain ⟨n3, hn3⟩ : ∃ n, n1 + n2 = n := ⟨_, rfl⟩
  rw [hn3] at HPA
  rw [hn3]
  have hn3b : n3 ≤ 2002 := by omega
  have d5 : ((n3 : Int) != ((n1 : Int) + (n2 : Int))) = false := by simp; omega
  have HN3 := Lib.hid hn3
  clear hp ho3 ho3' hb4 hb24 hn3 TK HIT HB23
  go_wp2_with fail
  go_loopw [73] (fun i wr => ∃ k : Nat, k ≤ n3 ∧ i = .int .i64 (k : Int) ∧ Hid (Below w4.heap.size w4 wr)) (fun i _ => n3 - (intOf i).toNat)
  case atStart => exact ⟨0, Nat.zero_le _, rfl, Below.refl _ _⟩
  case round =>
    obtain ⟨i, hi, rfl, hB⟩ := hrel
    by_cases hlt : i < n3
    · rcases HPA.out i hlt with ⟨hin, T, hT3, hT1⟩ | ⟨hin, hT3⟩ | ⟨j, T, hin, hj, hT2, hT3⟩
      · obtain ⟨b, off, rfl, hb, e0, e1, e2⟩ := tk_get (HS3.out.below hB.out) hT3
        obtain ⟨b', off', rfl, hb', e0', e1', e2'⟩ := tk_get (HS14.out.below hB.out) hT1
        have t1 : decide ((i : Int) < (n1 : Int) - 1) = true := by simp; omega
        have HBB := Lib.hid (below_al wr (.cells #[.int .i64 (T.kind : Int), .string ⟨T.text.toArray⟩, .int .i64 (T.at_ : Int)] 38))
        clear hT3 hT1
        generalize (T.kind : Int) = kd at *
        generalize ByteArray.mk T.text.toArray = tx at *
        generalize (T.at_ : Int) = ta at *
        go_wp2_with fail
        go_quiet (fail)
        go_wp2_with fail
        go_roundw
        case rel => exact ⟨i + 1, by omega, by go_num, below_next hB.out (belDrawN HBB.out _)⟩
        case measure => simp [intOf]; omega
      · obtain ⟨b, off, rfl, hb, e0, e1, e2⟩ := tk_get (HS3.out.below hB.out) hT3
        have e0 : wr.cell? ⟨b, off + i * 3, none⟩ = some (.int .i64 1) := e0
        have e1 : wr.cell? ⟨b, off + i * 3 + 1, none⟩ = some (.string ⟨#[]⟩) := e1
        have e2 : wr.cell? ⟨b, off + i * 3 + 2, none⟩ = some (.int .i64 (na : Int)) := e2
        have t1 : decide ((i : Int) < (n1 : Int) - 1) = false := by simp; omega
        have t2 : ((i : Int) == (n1 : Int) - 1) = true := by simp; omega
        have HBB := Lib.hid (below_al wr (.cells #[.int .i64 1, .string ⟨#[]⟩, .int .i64 (na : Int)] 38))
        clear hT3
        go_wp2_with fail
        go_roundw
        case rel => exact ⟨i + 1, by omega, by go_num, below_next hB.out HBB.out⟩
        case measure => simp [intOf]; omega
      · obtain ⟨b, off, rfl, hb, e0, e1, e2⟩ := tk_get (HS3.out.below hB.out) hT3
        obtain ⟨b', off', rfl, hb', e0', e1', e2'⟩ := tk_get (HS24.out.below hB.out) hT2
        have e2 : wr.cell? ⟨b, off + i * 3 + 2, none⟩ = some (.int .i64 ((T.at_ : Int) + ((na : Int) + 1))) := e2
        have hta : T.at_ ≤ 1000 := by
          have := (HI2.out.each T (List.mem_of_getElem? hT2)).2.2
          rw [HNB.out] at this
          omega
        have t1 : decide ((i : Int) < (n1 : Int) - 1) = false := by simp; omega
        have t2 : ((i : Int) == (n1 : Int) - 1) = false := by simp; omega
        have t3 : (i : Int) - (n1 : Int) = (j : Int) := by omega
        have HBB := Lib.hid (belAlloc (below_al wr (.cells #[.int .i64 (T.kind : Int), .string ⟨T.text.toArray⟩, .int .i64 ((T.at_ : Int) + ((na : Int) + 1))] 38)) (.cells #[.int .i64 (T.kind : Int), .string ⟨T.text.toArray⟩, .int .i64 ((T.at_ : Int) + ((na : Int) + 1))] 39))
        clear hT3 hT2 hin
        generalize (T.kind : Int) = kd at *
        generalize ByteArray.mk T.text.toArray = tx at *
        generalize T.at_ = ta at *
        go_wp2_with fail
        go_roundw
        case rel => exact ⟨i + 1, by omega, by go_num, below_next hB.out HBB.out⟩
        case measure => simp [intOf]; omega
    · have HB5 := Lib.hid (below_next HB4.out hB.out)
      have AL := Lib.hid (AL.out _ HB5.out)
      go_wp2_with fail
      refine AL.out.mono ?_
      rintro e w5 ⟨rfl, hb5⟩
      have HB6 := Lib.hid (below_next HB5.out hb5)
      clear hb5
      go_wp2_with fail
      go_ret
      exact ⟨rfl, HB6.out⟩

theorem tokenParts_any (A : Option Addr) (c : Nat) (la : List UInt8) (hl : la.length ≤ maxLen) (A2 : Option Addr) (c2 : Nat) (lb : List UInt8) (hl2 : lb.length ≤ maxLen) (w : World) (henv : Env w) (hA : ByAt w.heap.size w A c la) (hA2 : ByAt w.heap.size w A2 c2 lb) :
    Calls Tryd.prog 6 #[.slice A la.length c, .slice A2 lb.length c2] w fun e w' => e = .returned (.bool true) ∧ Below w.heap.size w w' := by
  by_cases h : 1000 < la.length ∨ 1000 < lb.length
  · exact tokenParts_big A A2 c c2 la lb hl hl2 h w henv hA hA2
  · exact tokenParts_small A A2 c c2 la lb (by omega) (by omega) w henv hA hA2
end Go.Proofs.YtpklpfncohdlhaaDoor
