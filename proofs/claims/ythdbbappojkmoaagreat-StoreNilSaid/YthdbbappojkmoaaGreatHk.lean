/- slices.Sort of numbers: the heap. -/
import Derived.Test.YthdbbappojkmoaaGreatSoA
import Derived.Deep.Cut
import Derived.Deep.DeepCutAuto
import Derived.Deep.CutBlock
namespace Go.Proofs.YthdbbappojkmoaaGreat
open Go.RowKit

variable {w0 W : World} {blk off n : Nat} {d : Array Nat}
/-- The greater child. -/
def chOf (hi first root : Nat) (d : Array Nat) : Nat := if (decide (2 * root + 1 + 1 < hi) && ltN d[first + 2 * root + 1]! d[first + 2 * root + 2]!) = true then 2 * root + 2 else 2 * root + 1
theorem ch_lt {hi first root : Nat} {d : Array Nat} (h : 2 * root + 1 < hi) : 2 * root + 1 ≤ chOf hi first root d ∧ chOf hi first root d < hi := by
  unfold chOf
  split
  · rename_i h2
    simp at h2
    omega
  · omega
theorem sd_end {hi first root : Nat} {d : Array Nat} (h : hi ≤ 2 * root + 1) : Sort.siftDown ltN hi first root d = d := by
  rw [Sort.siftDown, dif_pos h]
theorem sd_eq {hi first root : Nat} {d : Array Nat} (h : 2 * root + 1 < hi) : Sort.siftDown ltN hi first root d = if (!ltN d[first + root]! d[first + chOf hi first root d]!) = true then d else Sort.siftDown ltN hi first (chOf hi first root d) (Sort.swp d (first + root) (first + chOf hi first root d)) := by
  rw [Sort.siftDown, dif_neg (by omega)]
  unfold chOf
  rw [show first + (2 * root + 1) = first + 2 * root + 1 by omega, show first + 2 * root + 1 + 1 = first + 2 * root + 2 by omega]
  by_cases h2 : (decide (2 * root + 1 + 1 < hi) && ltN d[first + 2 * root + 1]! d[first + 2 * root + 2]!) = true
  · have h3 : 2 * root + 2 < hi := by simp at h2; omega
    rw [if_pos h2, if_pos h2]
    by_cases h4 : (!ltN d[first + root]! d[first + (2 * root + 2)]!) = true
    · rw [if_pos h4, if_pos h4]
    · rw [if_neg h4, if_neg h4, dif_pos h3]
  · rw [if_neg h2, if_neg h2, show first + 2 * root + 1 = first + (2 * root + 1) by omega]

set_option maxRecDepth 100000 in
set_option maxHeartbeats 4000000 in
theorem sift_any (c lo hi first : Nat) (hfn : first + hi ≤ n) (hl : lo ≤ n) (hn : n ≤ 1000000000) (H : Rw w0 blk off n d W) :
    Calls Tryz.prog 105 #[.slice (some ⟨blk, off, none⟩) n c, .int .i64 lo, .int .i64 hi, .int .i64 first] W fun e w' => e = .returned (.tuple #[]) ∧ Hid (Rw w0 blk off n (Sort.siftDown ltN hi first lo d) w') := by
  have H0 := Lib.hid H
  clear H
  go_enter Tryz.func105, Tryz.ntmps105
  go_wp2_with fail
  go_loopw [8] (fun sr wr => ∃ (r : Nat) (dk : Array Nat), sr = .int .i64 r ∧ r ≤ n ∧ Hid (Rw w0 blk off n dk wr) ∧ Hid (Sort.siftDown ltN hi first r dk = Sort.siftDown ltN hi first lo d)) (fun sr _ => n - (intOf sr).toNat)
  case atStart => exact ⟨lo, d, rfl, hl, H0, rfl⟩
  case round =>
    obtain ⟨r, dk, rfl, hr, H1, E1⟩ := hrel
    clear H0
    by_cases hge : hi ≤ 2 * r + 1
    · go_wp2_with fail
      go_end0
      exact ⟨rfl, H1.out.cast ((sd_end hge).symm.trans E1.out)⟩
    · have hlt : 2 * r + 1 < hi := by omega
      have HC := Lib.hid (ch_lt (first := first) (d := dk) hlt)
      have HE := Lib.hid ((sd_eq (first := first) (d := dk) hlt).symm.trans E1.out)
      obtain ⟨G, hG, hc, hf⟩ := H1.out.fam
      have HG := Lib.hid hG
      clear hG
      go_upto_region 3 with (fail)
      go_cut [36] (fun sc wx => sc = .bool (decide (2 * r + 1 + 1 < hi) && ltN (G (first + 2 * r + 1)) (G (first + 2 * r + 2))) ∧ Hid (Rw w0 blk off n dk wx))
      case first =>
        by_cases hij : 2 * r + 1 + 1 < hi
        · have hd : decide (2 * (r : Int) + 1 + 1 < (hi : Int)) = true := by simp; omega
          have hd2 : decide (2 * r + 1 + 1 < hi) = true := by simpa using hij
          go_quiet ((go_at_call 94; refine quietS (less_any _ _ _)))
          go_wp2_with fail
          go_meet
          exact ⟨by rw [hd2, Bool.true_and], H1.out.drewN _⟩
        · have hd : decide (2 * (r : Int) + 1 + 1 < (hi : Int)) = false := by simp; omega
          have hd2 : decide (2 * r + 1 + 1 < hi) = false := by simpa using hij
          go_quiet (fail)
          go_wp2_with fail
          go_meet
          exact ⟨by rw [hd2, Bool.false_and], H1.out.drewN _⟩
      case rest =>
        obtain ⟨rfl, H2⟩ := hcut
        clear H1 E1 hc hf
        cases hb : (decide (2 * r + 1 + 1 < hi) && ltN (G (first + 2 * r + 1)) (G (first + 2 * r + 2)))
        · have ec : chOf hi first r dk = 2 * r + 1 := by unfold chOf; rw [← HG.out, ← HG.out, hb]; rfl
          have HE := Lib.hid (ec ▸ HE.out)
          rw [show first + (2 * r + 1) = first + 2 * r + 1 by omega] at HE
          clear ec HC hb HG
          obtain ⟨G, hG, hc, hf⟩ := H2.out.fam
          have HG := Lib.hid hG
          clear hG
          cases hl : ltN (G (first + r)) (G (first + 2 * r + 1))
          · go_wp2_with fail
            go_quiet ((go_at_call 94; refine quietS (less_any _ _ _)))
            go_wp2_with fail
            first | (refine bodyPost_ret (results_none rfl _ _ _) rfl ?_) | go_end0
            refine ⟨rfl, (H2.out.drewN _).cast ?_⟩
            rw [← HE.out, if_pos (by rw [← HG.out, ← HG.out, hl]; rfl)]
          · have HE2 := Lib.hid (show Sort.siftDown ltN hi first (2 * r + 1) (Sort.swp dk (first + r) (first + 2 * r + 1)) = Sort.siftDown ltN hi first lo d by rw [← HE.out, if_neg (by rw [← HG.out, ← HG.out, hl]; simp)])
            clear HE
            go_wp2_with fail
            go_quiet ((go_at_call 94; refine quietS (less_any _ _ _)))
            go_wp2_with fail
            obtain ⟨um, hm⟩ := (H2.out.drewN nq).mid (first + r) (first + 2 * r + 1) (by omega) (by omega) (.int .u32 (G (first + 2 * r + 1) : Int))
            go_region
            go_wp2_with fail
            go_roundw
            case rel => exact ⟨2 * r + 1, _, by go_num, by omega, (H2.out.drewN _).swap HG.out (first + r) (first + 2 * r + 1) (by omega) (by omega), HE2⟩
            case measure => simp [intOf]; omega
        · have ec : chOf hi first r dk = 2 * r + 2 := by unfold chOf; rw [← HG.out, ← HG.out, hb]; rfl
          have HE := Lib.hid (ec ▸ HE.out)
          rw [show first + (2 * r + 2) = first + 2 * r + 2 by omega] at HE
          have hc2 : 2 * r + 2 < hi := by simp at hb; omega
          clear ec HC hb HG
          obtain ⟨G, hG, hc, hf⟩ := H2.out.fam
          have HG := Lib.hid hG
          clear hG
          cases hl : ltN (G (first + r)) (G (first + 2 * r + 2))
          · go_wp2_with fail
            go_quiet ((go_at_call 94; refine quietS (less_any _ _ _)))
            go_wp2_with fail
            first | (refine bodyPost_ret (results_none rfl _ _ _) rfl ?_) | go_end0
            refine ⟨rfl, (H2.out.drewN _).cast ?_⟩
            rw [← HE.out, if_pos (by rw [← HG.out, ← HG.out, hl]; rfl)]
          · have HE2 := Lib.hid (show Sort.siftDown ltN hi first (2 * r + 2) (Sort.swp dk (first + r) (first + 2 * r + 2)) = Sort.siftDown ltN hi first lo d by rw [← HE.out, if_neg (by rw [← HG.out, ← HG.out, hl]; simp)])
            clear HE
            go_wp2_with fail
            go_quiet ((go_at_call 94; refine quietS (less_any _ _ _)))
            go_wp2_with fail
            obtain ⟨um, hm⟩ := (H2.out.drewN nq).mid (first + r) (first + 2 * r + 2) (by omega) (by omega) (.int .u32 (G (first + 2 * r + 2) : Int))
            go_region
            go_wp2_with fail
            go_roundw
            case rel => exact ⟨2 * r + 2, _, by go_num, by omega, (H2.out.drewN _).swap HG.out (first + r) (first + 2 * r + 2) (by omega) (by omega), HE2⟩
            case measure => simp [intOf]; omega

theorem sift_size (hi first r : Nat) (d : Array Nat) : (Sort.siftDown ltN hi first r d).size = d.size := by
  induction hk : hi - r using Nat.strongRecOn generalizing r d with
  | ind k ih =>
    subst hk
    by_cases h : hi ≤ 2 * r + 1
    · rw [sd_end h]
    · have hc := ch_lt (first := first) (d := d) (Nat.lt_of_not_le h)
      rw [sd_eq (by omega)]
      split
      · rfl
      · rw [ih _ (by omega) _ _ rfl, Sort.size_swp]

end Go.Proofs.YthdbbappojkmoaaGreat

namespace Go.Proofs.YthdbbappojkmoaaGreat
open Go.RowKit

variable {w0 W : World} {blk off n : Nat} {d : Array Nat}
set_option maxRecDepth 100000 in
set_option maxHeartbeats 4000000 in
theorem heap_any (c a b : Nat) (hab : a + 12 < b) (hbn : b ≤ n) (hn : n ≤ 1000000000) (H : Rw w0 blk off n d W) :
    Calls Tryz.prog 89 #[.slice (some ⟨blk, off, none⟩) n c, .int .i64 a, .int .i64 b] W fun e w' => e = .returned (.tuple #[]) ∧ Hid (Rw w0 blk off n (Sort.heapSort ltN d a b) w') := by
  have H0 := Lib.hid H
  clear H
  obtain ⟨h, hh⟩ : ∃ h, b = a + h := ⟨b - a, by omega⟩
  obtain ⟨m, hm⟩ : ∃ m, m = (h - 1) / 2 := ⟨_, rfl⟩
  have HS := Lib.hid (show Sort.heapSort ltN d a b = Sort.heapPop ltN a h (Sort.heapBuild ltN h a (m + 1) d) by rw [hm]; unfold Sort.heapSort; rw [hh, Nat.add_sub_cancel_left])
  rw [HS.out]
  clear HS
  have hh1 : b ≤ a + h := by omega
  have hh2 : a + h ≤ b := by omega
  clear hh
  have SH := Lib.hid (fun lo W dk (h2 : lo ≤ n) (h3 : Rw w0 blk off n dk W) => by
    have := sift_any c lo h a (by omega) h2 hn h3
    rwa [show ((h : Nat) : Int) = (b : Int) - (a : Int) by omega] at this)
  have SI := Lib.hid (fun lo hi W dk (h1 : a + hi ≤ n) (h2 : lo ≤ n) (h3 : Rw w0 blk off n dk W) => sift_any c lo hi a h1 h2 hn h3)
  go_enter Tryz.func89, Tryz.ntmps89
  go_wp2_with fail
  go_loopw [9] (fun s9 wr => ∃ (k : Nat) (dk : Array Nat), s9 = .int .i64 ((k : Int) - 1) ∧ k ≤ m + 1 ∧ Hid (Rw w0 blk off n dk wr) ∧ Hid (Sort.heapBuild ltN h a k dk = Sort.heapBuild ltN h a (m + 1) d)) (fun s9 _ => (intOf s9 + 1).toNat)
  case atStart => exact ⟨m + 1, d, by congr 1; omega, Nat.le_refl _, H0, rfl⟩
  case round =>
    obtain ⟨k, dk, rfl, hk, H1, E1⟩ := hrel
    clear H0
    cases k with
    | zero =>
      rw [show ((0 : Nat) : Int) - 1 = -1 from rfl]
      go_wp2_with fail
      go_loopw [10] (fun s10 wr => ∃ (k : Nat) (dj : Array Nat), s10 = .int .i64 ((k : Int) - 1) ∧ k ≤ h ∧ Hid (Rw w0 blk off n dj wr) ∧ Hid (Sort.heapPop ltN a k dj = Sort.heapPop ltN a h dk)) (fun s10 _ => (intOf s10 + 1).toNat)
      case atStart => exact ⟨h, dk, by congr 1; omega, Nat.le_refl _, H1, rfl⟩
      case round =>
        obtain ⟨k, dj, rfl, hk, H2, E2⟩ := hrel
        clear H1
        cases k with
        | zero =>
          go_wp2_with fail
          go_end0
          exact ⟨rfl, H2.out.cast (E2.out.trans (congrArg (Sort.heapPop ltN a h) E1.out))⟩
        | succ k =>
          have ek : ((k + 1 : Nat) : Int) - 1 = (k : Int) := by omega
          rw [ek]
          clear ek
          obtain ⟨G, hG, hc, hf⟩ := H2.out.fam
          have HG := Lib.hid hG
          clear hG
          obtain ⟨um, hm⟩ := H2.out.mid a (a + k) (by omega) (by omega) (.int .u32 (G (a + k) : Int))
          go_wp2_with fail
          go_region
          have H3 := Lib.hid (H2.out.swap HG.out a (a + k) (by omega) (by omega)).drew
          clear hm hc hf HG H2
          generalize ((wr.setCell _ _).setCell _ _).drew = w3 at *
          have S3 := Lib.hid (SI.out 0 k w3 _ (by omega) (by omega) H3.out)
          clear H3
          go_wp2_with fail
          refine S3.out.mono ?_
          rintro e w4 ⟨rfl, H4⟩
          clear S3
          go_wp2_with fail
          go_roundw
          case rel => exact ⟨k, _, rfl, by omega, H4, E2⟩
          case measure => simp [intOf]
    | succ k =>
      have ek : ((k + 1 : Nat) : Int) - 1 = (k : Int) := by omega
      rw [ek]
      clear ek
      have S3 := Lib.hid (SH.out k wr dk (by omega) H1.out)
      clear H1
      go_wp2_with fail
      refine S3.out.mono ?_
      rintro e w4 ⟨rfl, H4⟩
      clear S3
      go_wp2_with fail
      go_roundw
      case rel => exact ⟨k, _, rfl, by omega, H4, E1⟩
      case measure => simp [intOf]
end Go.Proofs.YthdbbappojkmoaaGreat
