/- The laws' own: same, drain. -/
import Derived.Test.YtldlghfjinpnkaaDoorSplitF
import Derived.Test.YtldlghfjinpnkaaDoorEqB
namespace Go.Proofs.YtldlghfjinpnkaaDoor
open Go.RowKit

set_option maxRecDepth 100000 in
set_option maxHeartbeats 2000000 in
theorem sameC_any (k : Nat) (l : List UInt8) (hl : l.length ≤ 1000000) (w : World) (A A2 : Option Addr) (c c2 B1 B2 : Nat) (h1 : ByAt B1 w A c l) (h2 : ByAt B2 w A2 c2 l) :
    Calls Tryd.prog 22 #[.agg #[.int .i64 (k : Int), .slice A l.length c], .agg #[.int .i64 (k : Int), .slice A2 l.length c2]] w fun e w' => e = .returned (.bool true) ∧ Below w.heap.size w w' := by
  have EQ := Lib.hid (fun (W : World) (hW : Below w.heap.size w W) => by
    have := equalB_any w.heap.size w.heap.size A A2 c c2 l.length l.length l l rfl rfl (by omega) (by omega) W (h1.here.below hW) (h2.here.below hW)
    rw [decide_eq_true rfl] at this
    exact this)
  clear h1 h2
  generalize l.length = n at *
  go_enter Tryd.func22, Tryd.ntmps22
  have hb : Below w.heap.size w ((w.alloc (.cells #[.int .i64 (k : Int), .slice A n c] 42)).alloc (.cells #[.int .i64 (k : Int), .slice A2 n c2] 51)) := belAlloc (below_al _ _) _
  have HB := Lib.hid hb
  clear hb
  go_wp2_with fail
  refine (EQ.out _ HB.out).mono ?_
  rintro e w1 ⟨rfl, hb1⟩
  have HB1 := Lib.hid (below_next HB.out hb1)
  clear hb1 EQ
  go_wp2_with fail
  go_ret
  exact ⟨rfl, HB1.out⟩

/-- A slice of frames that reads as fs. -/
structure FsAt (w : World) (A : Option Addr) (vs : List (Int × Value)) (fs : List Fr) : Prop where
  sl : SlAt enc2 2 w A vs
  frs : FrsAt (fun _ => True) w vs fs
theorem FsAt.below {w w' : World} {A : Option Addr} {vs : List (Int × Value)} {fs : List Fr} (h : FsAt w A vs fs) (hb : Below w.heap.size w w') : FsAt w' A vs fs := ⟨h.sl.below hb, h.frs.keeps (keeps_below hb)⟩
theorem FsAt.of_own {w : World} {base n c : Nat} {T : TypeId} {A : Option Addr} {vs : List (Int × Value)} {fs : List Fr} (h : w.ownsRow base T 2 (.slice A n c) fs.length (flatL enc2 vs)) (hf : FrsAt (fun _ => True) w vs fs) : FsAt w A vs fs := by
  have hl := hf.len
  exact ⟨SlAt.of_own enc2_len (n := n) (c := c) (hl.symm ▸ h), hf⟩
/-- The frame at a place. -/
theorem FsAt.at {w : World} {A : Option Addr} {vs : List (Int × Value)} {fs : List Fr} (h : FsAt w A vs fs) {j : Nat} (hj : j < fs.length) :
    ∃ b off Ad cd, A = some ⟨b, off, none⟩ ∧ b < w.heap.size ∧ w.cell? ⟨b, off + j * 2, none⟩ = some (.int .i64 (fs[j].kind : Int)) ∧ w.cell? ⟨b, off + j * 2 + 1, none⟩ = some (.slice Ad fs[j].data.length cd) ∧ ByAt w.heap.size w Ad cd fs[j].data := by
  have hl := h.frs.len
  have hj2 : j < vs.length := by omega
  obtain ⟨b, off, hA, hb, hc⟩ := h.sl.at_ hj2
  obtain ⟨e1, Ad, cd, g, e2, e3, _⟩ := h.frs.at j hj2 hj
  refine ⟨b, off, Ad, cd, hA, hb, ?_, ?_, e3.by⟩
  · rw [← e1]
    exact hc 0 _ rfl
  · have := hc 1 _ rfl
    rw [this, e2]

set_option maxRecDepth 100000 in
set_option maxHeartbeats 4000000 in
theorem equalF_any (fs : List Fr) (n : Nat) (hn : fs.length = n) (hl : n ≤ 1000000) (hd : ∀ f ∈ fs, f.data.length ≤ 1000000) (w : World) (A A2 : Option Addr) (c c2 : Nat) (vs us : List (Int × Value)) (h1 : FsAt w A vs fs) (h2 : FsAt w A2 us fs) :
    Calls Tryd.prog 21 #[.slice A n c, .slice A2 n c2, .func (.func 22) #[] #[]] w fun e w' => e = .returned (.bool true) ∧ Below w.heap.size w w' := by
  have H1 := Lib.hid h1
  have H2 := Lib.hid h2
  have HD := Lib.hid hd
  have HN := Lib.hid hn
  clear h1 h2 hd hn
  go_enter Tryd.func21, Tryd.ntmps21
  go_wp2_with fail
  go_loopw [17] (fun i wr => ∃ k : Nat, k ≤ n ∧ i = .int .i64 (k : Int) ∧ Hid (Below w.heap.size w wr)) (fun i _ => n - (intOf i).toNat)
  case atStart => exact ⟨0, Nat.zero_le _, rfl, Below.refl _ _⟩
  case round =>
    obtain ⟨k, hk, rfl, hB⟩ := hrel
    by_cases hlt : k < n
    · have hlf : k < fs.length := by rw [HN.out]; exact hlt
      obtain ⟨b, off, Ad, cd, rfl, hb, e0, e1, e2⟩ := (H1.out.below hB.out).at hlf
      obtain ⟨b', off', Ad', cd', rfl, hb', e0', e1', e2'⟩ := (H2.out.below hB.out).at hlf
      have SC := Lib.hid (fun (W : World) (hW : Below wr.heap.size wr W) => sameC_any fs[k].kind fs[k].data (HD.out _ (List.getElem_mem hlf)) W Ad Ad' cd cd' wr.heap.size wr.heap.size (e2.below hW) (e2'.below hW))
      have hbb : Below wr.heap.size wr ((wr.alloc (.cells #[.int .i64 (fs[k].kind : Int), .slice Ad fs[k].data.length cd] 42)).alloc (.cells #[.int .i64 (fs[k].kind : Int), .slice Ad' fs[k].data.length cd'] 51)) := belAlloc (below_al _ _) _
      have HBB := Lib.hid hbb
      clear hbb e2 e2'
      generalize fs[k].kind = kd at *
      generalize fs[k].data.length = dl at *
      go_wp2_with fail
      refine (SC.out _ HBB.out).mono ?_
      rintro e w1 ⟨rfl, hb1⟩
      have HB1 := Lib.hid (below_next hB.out (below_next HBB.out hb1))
      clear hb1 SC HBB
      go_wp2_with fail
      go_roundw
      case rel => exact ⟨k + 1, by omega, by go_num, HB1⟩
      case measure => simp [intOf]; omega
    · go_wp2_with fail
      go_ret
      exact ⟨rfl, hB.out⟩

theorem same_any (fs : List Fr) (n : Nat) (hn : fs.length = n) (hl : n ≤ 1000000) (hd : ∀ f ∈ fs, f.data.length ≤ 1000000) (w : World) (A A2 : Option Addr) (c c2 : Nat) (vs us : List (Int × Value)) (h1 : FsAt w A vs fs) (h2 : FsAt w A2 us fs) :
    Calls Tryd.prog 13 #[.slice A n c, .slice A2 n c2] w fun e w' => e = .returned (.bool true) ∧ Below w.heap.size w w' := by
  have EF := Lib.hid (equalF_any fs n hn hl hd w A A2 c c2 vs us h1 h2)
  clear h1 h2 hn hd
  go_enter Tryd.func13, Tryd.ntmps13
  go_wp2_with fail
  refine EF.out.mono ?_
  rintro e w1 ⟨rfl, hb⟩
  go_wp2_with fail
  go_ret
  exact ⟨rfl, hb⟩
end Go.Proofs.YtldlghfjinpnkaaDoor
