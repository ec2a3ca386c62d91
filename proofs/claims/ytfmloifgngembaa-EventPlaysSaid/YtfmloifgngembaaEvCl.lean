/- slices.Concat over two slices of events; slices.Grow of nothing; slices.Clone. -/
import Derived.Test.YtfmloifgngembaaShelfW
import Derived.Test.YtfmloifgngembaaEv
import Derived.Lib.LazyBuf
namespace Go.Proofs.Ytfmloifgngembaa
open Go.RowKit

theorem growEv_any (n : Nat) (hn : n ≤ 1000000) (w : World) :
    Calls Try.prog 36 #[.slice none 0 0, .int .i64 n] w fun e w' => ∃ v, e = .returned v ∧ w'.ownsRow w.heap.size 39 3 v 0 [] ∧ Below w.heap.size w w' := by
  obtain ⟨i0, hi, hz0, hz1, hz2⟩ := info_parts infoEv
  by_cases h0 : n = 0
  · subst h0
    refine (Any8.slices_Grow_room Try.laysGrowV none 0 0 0 w (Nat.le_refl _) (by omega) (by omega) (by omega)).mono ?_
    rintro e w' ⟨rfl, rfl⟩
    exact ⟨_, rfl, World.ownsRow_nil _ _ _ _, Below.refl _ _⟩
  · refine (Any8.slices_Grow_grow Try.laysGrowV i0 _ hi hz0 (by omega) none 0 0 n [] w (Nat.le_refl _) (by omega) (by rw [hz2]; omega) (by omega) (by simp) (fun _ => rfl) (fun a h => by cases h)).mono ?_
    rintro e w' ⟨rfl, rfl⟩
    refine ⟨_, rfl, ?_, ?_⟩
    · refine World.ownsRow_made w.drew _ _ (Nat.le_refl _) (grownCap_le_maxLen _ _ _ _ (by unfold maxLen; omega)) ?_
      have := grownCap_ge w (0 + n) 0 (Try.laysGrowV_ren.t 25)
      simp only [List.size_toArray, List.length_nil, Array.size_append, size_zeroCells]
      show 0 + (0 + n - 0) * 3 + (grownCap w (0 + n) 0 (Try.laysGrowV_ren.t 25) - (0 + n)) * 3 = _
      omega
    · exact (show Below w.heap.size w w.drew from ⟨rfl, rfl, rfl, Nat.le_refl _, fun _ _ => rfl⟩).alloc (Nat.le_refl _) _

set_option maxRecDepth 100000 in
set_option maxHeartbeats 2000000 in
theorem concatEv_any (g : Nat) (A B : Option Addr) (c d : Nat) (l m : List EvI) (hl : l.length ≤ 100000) (hm : m.length ≤ 100000) (w : World)
    (h0 : w.cell? ⟨g, 0, none⟩ = some (.slice A l.length c)) (h1 : w.cell? ⟨g, 1, none⟩ = some (.slice B m.length d)) (hg : g < w.heap.size) (hA : SlAt encEv 3 w A l) (hB : SlAt encEv 3 w B m) :
    Calls Try.prog 26 #[.slice (some ⟨g, 0, none⟩) 2 2] w fun e w' => ∃ A' c', e = .returned (.slice A' (l ++ m).length c') ∧ w'.ownsRow w.heap.size 39 3 (.slice A' (l ++ m).length c') (l ++ m).length (flatL encEv (l ++ m)) ∧ Below w.heap.size w w' := by
  obtain ⟨i0, hi, hz0, hz1, hz2⟩ := info_parts infoEv
  have G := Lib.hid (growEv_any (l.length + m.length) (by omega) w)
  have HA := Lib.hid hA
  have HB := Lib.hid hB
  have h0' := Lib.hid h0
  have h1' := Lib.hid h1
  clear hA hB
  go_enter Try.func26, Try.ntmps26
  go_wp2_with fail
  refine wp_loop_rounds 3 ?_
  rw [rounds_succ]
  go_wp2_with fail
  rw [rounds_succ]
  go_wp2_with fail
  rw [rounds_succ]
  go_wp2_with fail
  refine G.out.mono ?_
  rintro e w1 ⟨v, rfl, hv, h1B⟩
  obtain ⟨Av, cv, rfl⟩ := own_any hv
  have hB1 := h1B
  have h0w : w1.cell? ⟨g, 0, none⟩ = some (.slice A l.length c) := (h1B.cell hg).trans h0'.out
  have HA1 := Lib.hid (HA.out.below h1B)
  clear G h0' HA
  go_wp2_with fail
  refine wp_loop_rounds 3 ?_
  rw [rounds_succ]
  go_wp2_with (at_builtin; refine wpList_append_sl _ rfl _ _ 28 rfl w.heap.size 39 i0 _ 16 Try.underlying28 hi hz0 hz1 hz2 rfl (by decide) _ 0 [] rfl hv A l c rfl encEv_len HA1.out (one_flatEv l) (by unfold maxLen; omega) (by omega) h1B.size ?_; intro v2 w2 hv2 hg2)
  have hB2 := hB1.grown hg2 hB1.size (fun k hk => (hv.lt k hk).1)
  have h1w : w2.cell? ⟨g, 1, none⟩ = some (.slice B m.length d) := (hB2.cell hg).trans h1'.out
  have HB2 := Lib.hid (HB.out.below hB2)
  clear h1' HB HA1 hg2 hB1 h1B h0w hv
  rw [Nat.zero_add, List.nil_append] at hv2
  rw [rounds_succ]
  go_wp2_with (at_builtin; refine wpList_append_sl _ rfl _ _ 28 rfl w.heap.size 39 i0 _ 16 Try.underlying28 hi hz0 hz1 hz2 rfl (by decide) _ l.length (flatL encEv l) rfl hv2 B m d rfl encEv_len HB2.out (one_flatEv m) (by unfold maxLen; omega) (by omega) hB2.size ?_; intro v3 w3 hv3 hg3)
  have hB3 := hB2.grown hg3 hB2.size (fun k hk => (hv2.lt k hk).1)
  clear HB2 hg3 hB2 h1w hv2
  rw [← flatL_append, ← List.length_append] at hv3
  obtain ⟨A3, c3, rfl⟩ := own_any hv3
  rw [rounds_succ]
  have HV := Lib.hid hv3
  clear hv3
  go_wp2_with fail
  go_ret
  exact ⟨_, _, rfl, HV.out, hB3⟩
set_option maxRecDepth 100000 in
theorem cloneEv_any (A : Option Addr) (c : Nat) (l : List EvI) (hl : l.length ≤ 1000000) (w : World) (hS : SlAt encEv 3 w A l) :
    Calls Try.prog 25 #[.slice A l.length c] w fun e w' => ∃ v, e = .returned v ∧ w'.ownsRow w.heap.size 39 3 v l.length (flatL encEv l) ∧ Below w.heap.size w w' := by
  obtain ⟨i0, hi, hz0, hz1, hz2⟩ := info_parts infoEv
  have q22 := fun (w : World) (a : Option Addr) (l c : Nat) => run_eql_slice_nil (P := Try.prog) w 28 39 a l c Try.underlying28
  rcases A with _ | ad
  · obtain rfl : l = [] := by
      rcases hS with h | ⟨b, off, hA, _⟩
      · exact h
      · cases hA
    clear hS hl
    go_enter Try.func25, Try.ntmps25
    go_wp2_with fail
    go_ret
    exact ⟨_, rfl, World.ownsRow_nil _ _ _ _, Below.refl _ _⟩
  · have HS := Lib.hid (hS.below (below_al w (.cells #[] 39)))
    have HOE := Lib.hid (own_empty (sz := 3) (heap_alloc_new w (.cells #[] 39)) (Nat.le_refl _))
    have H63 := Lib.hid (show 0 + l.length ≤ maxLen by unfold maxLen; omega)
    have HBY := Lib.hid (show (0 + l.length) * 16 ≤ 140737488355328 by omega)
    have HB0 := Lib.hid (below_al w (.cells #[] 39))
    have HSZ := Lib.hid HB0.out.size
    clear hS hl
    go_enter Try.func25, Try.ntmps25
    go_wp2_with (at_builtin; refine wpList_append_sl _ rfl _ _ 28 rfl w.heap.size 39 i0 _ 16 Try.underlying28 hi hz0 hz1 hz2 rfl (by decide) _ 0 [] rfl HOE.out (some ad) l c rfl encEv_len HS.out (one_flatEv l) H63.out HBY.out HSZ.out ?_; intro v2 w2 hown2 hg2)
    rw [Nat.zero_add, List.nil_append] at hown2
    obtain ⟨A2, c2, rfl⟩ := own_any hown2
    have HB2 := Lib.hid (HB0.out.grown hg2 HSZ.out (fun kk hkk => (HOE.out.lt kk hkk).1))
    have HO := Lib.hid hown2
    clear hown2 hg2
    go_wp2_with fail
    go_ret
    exact ⟨_, rfl, HO.out, HB2.out⟩
end Go.Proofs.Ytfmloifgngembaa
