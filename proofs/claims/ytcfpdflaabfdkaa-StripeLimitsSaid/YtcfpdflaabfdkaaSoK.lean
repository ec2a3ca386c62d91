/- slices.Sort of numbers: the heap sort. -/
import Derived.Test.YtcfpdflaabfdkaaSoH
namespace Go.Proofs.Ytcfpdflaabfdkaa
open Go.RowKit

variable {w0 W : World} {blk off n : Nat} {d : Array Nat}
set_option maxRecDepth 100000 in
set_option maxHeartbeats 4000000 in
theorem heap_any (c a b : Nat) (hab : a + 12 < b) (hbn : b ≤ n) (hn : n ≤ 1000000000) (H : Rw w0 blk off n d W) :
    Calls Try.prog 50 #[.slice (some ⟨blk, off, none⟩) n c, .int .i64 a, .int .i64 b] W fun e w' => e = .returned (.tuple #[]) ∧ Hid (Rw w0 blk off n (Sort.heapSort ltN d a b) w') := by
  have H0 := Lib.hid H
  clear H
  obtain ⟨h, hh⟩ : ∃ h, b = a + h := ⟨b - a, by omega⟩
  obtain ⟨m, hm⟩ : ∃ m, m = (h - 1) / 2 := ⟨_, rfl⟩
  have HS := Lib.hid (show Sort.heapSort ltN d a b = Sort.heapPop ltN a h (Sort.heapBuild ltN h a (m + 1) d) by rw [hm]; unfold Sort.heapSort; rw [hh, Nat.add_sub_cancel_left])
  rw [HS.out]
  clear HS
  have hh1 : b ≤ a + h := by omega
  have hh2 : a + h ≤ b := by omega
  clear hh
  have SH := Lib.hid (fun lo W dk (h2 : lo ≤ n) (h3 : Rw w0 blk off n dk W) => by
    have := sift_any c lo h a (by omega) h2 hn h3
    rwa [show ((h : Nat) : Int) = (b : Int) - (a : Int) by omega] at this)
  have SI := Lib.hid (fun lo hi W dk (h1 : a + hi ≤ n) (h2 : lo ≤ n) (h3 : Rw w0 blk off n dk W) => sift_any c lo hi a h1 h2 hn h3)
  go_enter Try.func50, Try.ntmps50
  go_wp2_with fail
  go_loopw [9] (fun s9 wr => ∃ (k : Nat) (dk : Array Nat), s9 = .int .i64 ((k : Int) - 1) ∧ k ≤ m + 1 ∧ Hid (Rw w0 blk off n dk wr) ∧ Hid (Sort.heapBuild ltN h a k dk = Sort.heapBuild ltN h a (m + 1) d)) (fun s9 _ => (intOf s9 + 1).toNat)
  case atStart => exact ⟨m + 1, d, by congr 1; omega, Nat.le_refl _, H0, rfl⟩
  case round =>
    obtain ⟨k, dk, rfl, hk, H1, E1⟩ := hrel
    clear H0
    cases k with
    | zero =>
      rw [show ((0 : Nat) : Int) - 1 = -1 from rfl]
      go_wp2_with fail
      go_loopw [10] (fun s10 wr => ∃ (k : Nat) (dj : Array Nat), s10 = .int .i64 ((k : Int) - 1) ∧ k ≤ h ∧ Hid (Rw w0 blk off n dj wr) ∧ Hid (Sort.heapPop ltN a k dj = Sort.heapPop ltN a h dk)) (fun s10 _ => (intOf s10 + 1).toNat)
      case atStart => exact ⟨h, dk, by congr 1; omega, Nat.le_refl _, H1, rfl⟩
      case round =>
        obtain ⟨k, dj, rfl, hk, H2, E2⟩ := hrel
        clear H1
        cases k with
        | zero =>
          go_wp2_with fail
          go_end0
          exact ⟨rfl, H2.out.cast (E2.out.trans (congrArg (Sort.heapPop ltN a h) E1.out))⟩
        | succ k =>
          have ek : ((k + 1 : Nat) : Int) - 1 = (k : Int) := by omega
          rw [ek]
          clear ek
          obtain ⟨G, hG, hc, hf⟩ := H2.out.fam
          have HG := Lib.hid hG
          clear hG
          obtain ⟨um, hm⟩ := H2.out.mid a (a + k) (by omega) (by omega) (.int .u32 (G (a + k) : Int))
          go_wp2_with fail
          go_region
          have H3 := Lib.hid (H2.out.swap HG.out a (a + k) (by omega) (by omega)).drew
          clear hm hc hf HG H2
          generalize ((wr.setCell _ _).setCell _ _).drew = w3 at *
          have S3 := Lib.hid (SI.out 0 k w3 _ (by omega) (by omega) H3.out)
          clear H3
          go_wp2_with fail
          refine S3.out.mono ?_
          rintro e w4 ⟨rfl, H4⟩
          clear S3
          go_wp2_with fail
          go_roundw
          case rel => exact ⟨k, _, rfl, by omega, H4, E2⟩
          case measure => simp [intOf]
    | succ k =>
      have ek : ((k + 1 : Nat) : Int) - 1 = (k : Int) := by omega
      rw [ek]
      clear ek
      have S3 := Lib.hid (SH.out k wr dk (by omega) H1.out)
      clear H1
      go_wp2_with fail
      refine S3.out.mono ?_
      rintro e w4 ⟨rfl, H4⟩
      clear S3
      go_wp2_with fail
      go_roundw
      case rel => exact ⟨k, _, rfl, by omega, H4, E1⟩
      case measure => simp [intOf]
end Go.Proofs.Ytcfpdflaabfdkaa
