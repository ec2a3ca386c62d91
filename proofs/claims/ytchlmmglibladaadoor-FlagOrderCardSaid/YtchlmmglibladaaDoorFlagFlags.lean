/- flag: flags: the map that is filled in the round of a range over another. -/
import Derived.Test.YtchlmmglibladaaDoorFlagName
import Derived.Test.YtchlmmglibladaaDoorCharUp
namespace Go.Proofs.YtchlmmglibladaaDoor
open Go.RowKit Go.Maps

theorem kS (l : List UInt8) (h : l.length ≤ 1000000000) : keyOf Tryd.prog 9 (.string ⟨l.toArray⟩) = some (.string l) := by
  have := WideMaps.keyOf_string_mk (P := Tryd.prog) Tryd.underlying9 (s := ⟨l.toArray⟩) (by unfold maxLen; show l.toArray.size ≤ _; simp; omega)
  simpa using this
theorem eF (n : Nat) (h : n ≤ 255) : plainElem (H := Unit) Tryd.prog 22 (.int .u8 (n : Int)) = some (flgD n, []) :=
  plainElem_int Tryd.underlying22 (by simp [Lit.wf, IntKind.min, IntKind.max, IntKind.signed, IntKind.bits]; omega)

set_option maxRecDepth 100000 in
set_option maxHeartbeats 1000000 in
theorem flags_any (w : World) :
    Calls Tryd.prog 23 #[] w fun e w' => ∃ b D, e = .returned (.map (some b)) ∧ w'.ownsMap Tryd.prog 9 (plainElem Tryd.prog 22) b 5 D ∧ FlagsD D ∧ w.heap.size ≤ b ∧ Below w.heap.size w w' := by
  have hmm := @run_makeMap Tryd.prog
  have N := Lib.hid (fun w1 => names_any w1)
  go_enter Tryd.func23, Tryd.ntmps23
  go_wp2_with fail
  refine (N.out _).mono ?_
  rintro e w1 ⟨rfl, ho, hb⟩
  have hz : (w.alloc (.map #[] 0)).heap.size = w.heap.size + 1 := by simp
  have HF := Lib.hid (((World.ownsMap_made (H := Unit) w Tryd.prog 9 (plainElem Tryd.prog 22)).kept (row := none) ⟨hb.os, hb.tape, hb.output, hb.size, fun k hk _ => hb.block k hk⟩ (by simp)))
  rw [hz] at ho
  have HO := Lib.hid ho
  have hb1 : Below w.heap.size w w1 := below_next ((Below.refl _ _).alloc (Nat.le_refl _) _) hb
  have hs1 : w.heap.size + 1 < w1.heap.size := by have := ho.lt; omega
  clear ho N hb hz
  go_wp2_with (at_range; refine wpList_range_own _ rfl _ 38 rfl 22 9 keyF Tryd.underlying38 _ _ _ _ rfl HO.out ?_; intro w0 hrg0 hg0 hs0)
  go_frame
  have HI := Lib.hid flags_start
  have hk0 := hb1.grown hg0 hb1.size (fun j hj => by cases hj)
  have HF0 := Lib.hid ((HF.out.kept hg0 (by simp)).mono (Nat.zero_le (5 - size nmD)))
  have hr0 : w.heap.size < w1.heap.size := by omega
  clear HF HO hb1
  generalize w1.heap.size = r at *
  clear w1 hg0 hs0
  go_loopw [2] (fun _ wr => ∃ (left : Lit → Bool) (cnt : Nat) (D : DataW Unit), wr.ranges Tryd.prog 22 (plainElem Tryd.prog 9) (w.heap.size + 1) r 5 nmD left cnt ∧ cnt ≤ 5 ∧
      wr.ownsMap Tryd.prog 9 (plainElem Tryd.prog 22) w.heap.size (5 - cnt) D ∧ FlagsInv D left ∧ Below w.heap.size w wr)
    (fun _ wr => wr.rangeLeft (w.heap.size + 1) r)
  case atStart => exact ⟨_, _, _, hrg0, by decide, HF0.out, HI.out, hk0⟩
  case round =>
    obtain ⟨left, cnt, D, hrg, hcs, hown, hI, hb⟩ := hrel
    have HI := Lib.hid hI
    have HW := Lib.hid hown
    clear hI hown hk0 HF0 hrg0
    go_wp2_with (first
      | (at_next; refine wpList_next_ranges_is _ rfl _ rfl 22 9 .u8 keyF Tryd.underlying22 Tryd.underlying9 (w.heap.size + 1) r 5 _ _ _ rfl hrg ?_ ?_)
      | fail)
    · intro hc0 hl0
      go_wp2_with fail
      subst hc0
      have hE := flags_end HI.out hl0
      go_ret
      exact ⟨_, _, rfl, HW.out, hE, Nat.le_refl _, hb⟩
    · intro x c w2 cnt1 hwx hwc hlx hat hrg1 hlt hg1 hs1 hen
      obtain ⟨f, rfl, hf, hc⟩ := nm_found (c := c.data.toList) hat
      have hf16 : f ≤ 16 := by rcases ones_mem.1 hf with rfl | rfl | rfl | rfl | rfl <;> decide
      obtain rfl := str_of hc
      have HI1 := Lib.hid (flags_step hf HI.out)
      have HW1 := Lib.hid (HW.out.kept hg1 (by simp; omega))
      have hb2 := hb.grown hg1 hb.size (fun j hj => by cases hj; omega)
      have hnl : (nameF f).length ≤ 100 := by rcases ones_mem.1 hf with rfl | rfl | rfl | rfl | rfl <;> decide
      have hul : (upL (nameF f)).length ≤ 100 := by rw [upL_length]; exact hnl
      have U := Lib.hid (fun w1 => upper_any ⟨(nameF f).toArray⟩ (by show (nameF f).toArray.size ≤ _; simp; omega) w1)
      have HM := Lib.hid (hrg.left_eq)
      have HG := Lib.hid hrg1
      have HH := Lib.hid hat
      clear hat hc hb hrg1 HW HI hwx hwc hlx
      have hw2 := hb2.size
      go_wp2_with fail
      refine (U.out _).mono ?_
      rintro e w3 ⟨rfl, hb3⟩
      have HW2 := Lib.hid (HW1.out.kept (row := none) ⟨hb3.os, hb3.tape, hb3.output, hb3.size, fun k hk _ => hb3.block k hk⟩ (by simp))
      have HG2 := Lib.hid (HG.out.kept (row := none) ⟨hb3.os, hb3.tape, hb3.output, hb3.size, fun k hk _ => hb3.block k hk⟩ (by simp) (by simp))
      have hb4 := hb2.trans (hb3.mono hw2)
      have hw4 := hb4.size
      clear U HW1 HG hb2 hb3 hw2
      go_wp2_with (at_mapUpdate; refine wpList_mapUpdate_own _ rfl _ _ _ 42 rfl 9 22 keyS Tryd.underlying42 _ w.heap.size _ _ rfl HW2.out (by unfold maxLen; omega) _ _ _ rfl rfl (kS (upL (nameF f)) (by omega)) _ [] (eF f (by omega)) ?_; intro w5 ho5 hg5; go_frame)
      have hrg5 := HG2.out.kept hg5 (by simp) (by simp; omega)
      have hb5 := hb4.grown hg5 hb4.size (fun j hj => by cases hj; exact Nat.le_refl _)
      go_roundw
      case rel => exact ⟨_, cnt1, _, hrg5, by omega, ho5.mono (by omega), HI1.out, hb5⟩
      case measure => rw [hrg5.left_eq, HM.out]; exact hlt
end Go.Proofs.YtchlmmglibladaaDoor
