/- slices.Concat at bytes, over two and over three slices. -/
import Derived.Test.YtcpbgceplgcblaaDoorShelfG
import Derived.Test.YtcpbgceplgcblaaDoorGa
namespace Go.Proofs.YtcpbgceplgcblaaDoor
open Go.RowKit

theorem growB_any (n : Nat) (hn : n ≤ 100000000) (w : World) :
    Calls Tryd.prog 32 #[.slice none 0 0, .int .i64 n] w fun e w' => ∃ v, e = .returned v ∧ w'.ownsRow w.heap.size 5 1 v 0 [] ∧ Below w.heap.size w w' := by
  obtain ⟨i0, hi, hz0, hz1, hz2⟩ := info_parts infoByte
  by_cases h0 : n = 0
  · subst h0
    refine (Any8.slices_Grow_room Tryd.laysGrow none 0 0 0 w (Nat.le_refl _) (by omega) (by omega) (by omega)).mono ?_
    rintro e w' ⟨rfl, rfl⟩
    exact ⟨_, rfl, World.ownsRow_nil _ _ _ _, Below.refl _ _⟩
  · refine (Any8.slices_Grow_grow Tryd.laysGrow i0 _ hi hz0 (by omega) none 0 0 n [] w (Nat.le_refl _) (by omega) (by rw [hz2]; omega) (by omega) (by simp) (fun _ => rfl) (fun a h => by cases h)).mono ?_
    rintro e w' ⟨rfl, rfl⟩
    refine ⟨_, rfl, ?_, ?_⟩
    · refine World.ownsRow_made w.drew _ _ (Nat.le_refl _) (grownCap_le_maxLen _ _ _ _ (by unfold maxLen; omega)) ?_
      have := grownCap_ge w (0 + n) 0 (Tryd.laysGrow_ren.t 25)
      simp only [List.size_toArray, List.length_nil, Array.size_append, size_zeroCells]
      show 0 + (0 + n - 0) * 1 + (grownCap w (0 + n) 0 (Tryd.laysGrow_ren.t 25) - (0 + n)) * 1 = _
      omega
    · exact (show Below w.heap.size w w.drew from ⟨rfl, rfl, rfl, Nat.le_refl _, fun _ _ => rfl⟩).alloc (Nat.le_refl _) _

set_option maxRecDepth 100000 in
set_option maxHeartbeats 4000000 in
theorem concat2_any (g : Nat) (A1 A2 : Option Addr) (c1 c2 : Nat) (l1 l2 : List UInt8) (hl1 : l1.length ≤ 10000000) (hl2 : l2.length ≤ 10000000) (w : World)
    (h0 : w.cell? ⟨g, 0, none⟩ = some (.slice A1 l1.length c1)) (h1 : w.cell? ⟨g, 1, none⟩ = some (.slice A2 l2.length c2)) (hg : g < w.heap.size) (hA1 : ByAt w.heap.size w A1 c1 l1) (hA2 : ByAt w.heap.size w A2 c2 l2) :
    Calls Tryd.prog 18 #[.slice (some ⟨g, 0, none⟩) 2 2] w fun e w' => ∃ A' c', e = .returned (.slice A' (l1 ++ l2).length c') ∧ ByAt w'.heap.size w' A' c' (l1 ++ l2) ∧ Below w.heap.size w w' := by
  obtain ⟨i0, hi, hz0, hz1, hz2⟩ := info_parts infoByte
  have G := Lib.hid (growB_any (l1.length + l2.length) (by omega) w)
  have HA := Lib.hid hA1
  have HB := Lib.hid hA2
  have h0' := Lib.hid h0
  have h1' := Lib.hid h1
  clear hA1 hA2
  go_enter Tryd.func18, Tryd.ntmps18
  go_wp2_with fail
  refine wp_loop_rounds 3 ?_
  rw [rounds_succ]
  go_wp2_with fail
  rw [rounds_succ]
  go_wp2_with fail
  rw [rounds_succ]
  go_wp2_with fail
  refine G.out.mono ?_
  rintro e w1 ⟨v, rfl, hv, h1B⟩
  obtain ⟨Av, cv, rfl⟩ := own_any hv
  have hB1 := h1B
  have h0w : w1.cell? ⟨g, 0, none⟩ = some (.slice A1 l1.length c1) := (h1B.cell hg).trans h0'.out
  have HA1 := Lib.hid (HA.out.below h1B)
  clear G h0' HA
  go_wp2_with fail
  refine wp_loop_rounds 3 ?_
  rw [rounds_succ]
  go_wp2_with (at_builtin; refine wpList_append_sl _ rfl _ _ 24 rfl w.heap.size 5 i0 _ 1 Tryd.underlying24 hi hz0 hz1 hz2 rfl (by decide) _ 0 [] rfl hv A1 l1 c1 rfl encB_len HA1.out.sl (one_flatB l1) (by unfold maxLen; omega) (by omega) h1B.size ?_; intro v2 w2 hv2 hg2)
  have hB2 := hB1.grown hg2 hB1.size (fun k hk => (hv.lt k hk).1)
  have h1w : w2.cell? ⟨g, 1, none⟩ = some (.slice A2 l2.length c2) := (hB2.cell hg).trans h1'.out
  have HB2 := Lib.hid (HB.out.below hB2)
  clear h1' HB HA1 hg2 hB1 h1B h0w hv
  rw [Nat.zero_add, List.nil_append] at hv2
  rw [rounds_succ]
  go_wp2_with (at_builtin; refine wpList_append_sl _ rfl _ _ 24 rfl w.heap.size 5 i0 _ 1 Tryd.underlying24 hi hz0 hz1 hz2 rfl (by decide) _ l1.length (flatL encB l1) rfl hv2 A2 l2 c2 rfl encB_len HB2.out.sl (one_flatB l2) (by unfold maxLen; omega) (by omega) hB2.size ?_; intro v3 w3 hv3 hg3)
  have hB3 := hB2.grown hg3 hB2.size (fun k hk => (hv2.lt k hk).1)
  clear HB2 hg3 hB2 h1w hv2
  rw [← flatL_append, ← List.length_append] at hv3
  obtain ⟨A3, c3, rfl⟩ := own_any hv3
  rw [rounds_succ]
  have HV := Lib.hid hv3
  clear hv3
  go_wp2_with fail
  go_ret
  exact ⟨_, _, rfl, ByAt.of_own HV.out, hB3⟩
end Go.Proofs.YtcpbgceplgcblaaDoor
