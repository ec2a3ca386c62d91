/- slices.Concat over two slices of ranges; slices.Grow of nothing. -/
import Derived.Test.YtdgcghcigjblaaaGreatDoorShelfG
import Derived.Test.YtdgcghcigjblaaaGreatDoorAppend
import Derived.Test.YtdgcghcigjblaaaGreatDoorJoin
import Derived.Test.YtdgcghcigjblaaaGreatDoorKeeps
namespace Go.Proofs.YtdgcghcigjblaaaGreatDoor
open Go.RowKit

theorem grow_any (n : Nat) (hn : n ≤ 1000000) (w : World) :
    Calls Tryz.prog 19 #[.slice none 0 0, .int .i64 n] w fun e w' => ∃ v, e = .returned v ∧ w'.ownsRow w.heap.size 31 2 v 0 [] ∧ Below w.heap.size w w' := by
  obtain ⟨i0, hi, hz0, hz1, hz2⟩ := info_parts infoR
  by_cases h0 : n = 0
  · subst h0
    refine (Any8.slices_Grow_room Tryz.laysGrow none 0 0 0 w (Nat.le_refl _) (by omega) (by omega) (by omega)).mono ?_
    rintro e w' ⟨rfl, rfl⟩
    exact ⟨_, rfl, World.ownsRow_nil _ _ _ _, Below.refl _ _⟩
  · refine (Any8.slices_Grow_grow Tryz.laysGrow i0 _ hi hz0 (by omega) none 0 0 n [] w (Nat.le_refl _) (by omega) (by rw [hz2]; omega) (by omega) (by simp) (fun _ => rfl) (fun a h => by cases h)).mono ?_
    rintro e w' ⟨rfl, rfl⟩
    refine ⟨_, rfl, ?_, ?_⟩
    · refine World.ownsRow_made w.drew _ _ (Nat.le_refl _) (grownCap_le_maxLen _ _ _ _ (by unfold maxLen; omega)) ?_
      have := grownCap_ge w (0 + n) 0 (Tryz.laysGrow_ren.t 25)
      simp only [List.size_toArray, List.length_nil, Array.size_append, size_zeroCells]
      show 0 + (0 + n - 0) * 2 + (grownCap w (0 + n) 0 (Tryz.laysGrow_ren.t 25) - (0 + n)) * 2 = _
      omega
    · exact (show Below w.heap.size w w.drew from ⟨rfl, rfl, rfl, Nat.le_refl _, fun _ _ => rfl⟩).alloc (Nat.le_refl _) _

theorem one_flatR (l : List R) : ∀ u ∈ flatL encR l, u.oneCell' = true := by
  intro u hu
  unfold flatL at hu
  obtain ⟨r, _, hr⟩ := List.mem_flatMap.1 hu
  simp [encR] at hr
  rcases hr with rfl | rfl <;> rfl

set_option maxRecDepth 100000 in
set_option maxHeartbeats 2000000 in
theorem concat_any (g : Nat) (A B : Option Addr) (c d : Nat) (l m : List R) (hl : l.length ≤ 100000) (hm : m.length ≤ 100000) (w : World)
    (h0 : w.cell? ⟨g, 0, none⟩ = some (.slice A l.length c)) (h1 : w.cell? ⟨g, 1, none⟩ = some (.slice B m.length d)) (hg : g < w.heap.size) (hA : SlAt encR 2 w A l) (hB : SlAt encR 2 w B m) :
    Calls Tryz.prog 8 #[.slice (some ⟨g, 0, none⟩) 2 2] w fun e w' => ∃ A' c', e = .returned (.slice A' (l ++ m).length c') ∧ SlAt encR 2 w' A' (l ++ m) ∧ Below w.heap.size w w' := by
  obtain ⟨i0, hi, hz0, hz1, hz2⟩ := info_parts infoR
  have G := Lib.hid (grow_any (l.length + m.length) (by omega) w)
  have HA := Lib.hid hA
  have HB := Lib.hid hB
  have h0' := Lib.hid h0
  have h1' := Lib.hid h1
  clear hA hB
  go_enter Tryz.func8, Tryz.ntmps8
  go_wp2_with fail
  refine wp_loop_rounds 3 ?_
  rw [rounds_succ]
  go_wp2_with fail
  rw [rounds_succ]
  go_wp2_with fail
  rw [rounds_succ]
  go_wp2_with fail
  refine G.out.mono ?_
  rintro e w1 ⟨v, rfl, hv, h1B⟩
  obtain ⟨Av, cv, rfl⟩ := own_nil hv
  have hB1 := h1B
  have h0w : w1.cell? ⟨g, 0, none⟩ = some (.slice A l.length c) := (h1B.cell hg).trans h0'.out
  have HA1 := Lib.hid (HA.out.below h1B)
  clear G h0' HA
  go_wp2_with fail
  refine wp_loop_rounds 3 ?_
  rw [rounds_succ]
  go_wp2_with (at_builtin; refine wpList_append_sl _ rfl _ _ 24 rfl w.heap.size 31 i0 _ 8 Tryz.underlying24 hi hz0 hz1 hz2 rfl (by decide) _ 0 [] rfl hv A l c rfl encR_len HA1.out (one_flatR l) (by unfold maxLen; omega) (by omega) h1B.size ?_; intro v2 w2 hv2 hg2)
  have hB2 := hB1.grown hg2 hB1.size (fun k hk => (hv.lt k hk).1)
  have h1w : w2.cell? ⟨g, 1, none⟩ = some (.slice B m.length d) := (hB2.cell hg).trans h1'.out
  have HB2 := Lib.hid (HB.out.below hB2)
  clear h1' HB HA1 hg2 hB1 h1B h0w hv
  rw [Nat.zero_add, List.nil_append] at hv2
  rw [rounds_succ]
  go_wp2_with (at_builtin; refine wpList_append_sl _ rfl _ _ 24 rfl w.heap.size 31 i0 _ 8 Tryz.underlying24 hi hz0 hz1 hz2 rfl (by decide) _ l.length (flatL encR l) rfl hv2 B m d rfl encR_len HB2.out (one_flatR m) (by unfold maxLen; omega) (by omega) hB2.size ?_; intro v3 w3 hv3 hg3)
  have hB3 := hB2.grown hg3 hB2.size (fun k hk => (hv2.lt k hk).1)
  clear HB2 hg3 hB2 h1w hv2
  rw [← flatL_append, ← List.length_append] at hv3
  obtain ⟨A3, c3, rfl⟩ := own_any hv3
  rw [rounds_succ]
  have HV := Lib.hid hv3
  clear hv3
  go_wp2_with fail
  go_ret
  exact ⟨_, _, rfl, SlAt.of_own encR_len HV.out, hB3⟩
end Go.Proofs.YtdgcghcigjblaaaGreatDoor
