/- slices.Sort of numbers: the reversal, the choice of a pivot. -/
import Derived.Test.YtcfpdflaabfdkaaSoA
namespace Go.Proofs.Ytcfpdflaabfdkaa
open Go.RowKit

variable {w0 W : World} {blk off n : Nat} {d : Array Nat}
theorem rev_go {i j : Nat} {D : Array Nat} (h : i < j) : Sort.reverseLoop i j D = Sort.reverseLoop (i + 1) (j - 1) (Sort.swp D i j) := by rw [Sort.reverseLoop, if_pos h]
theorem rev_end {i j : Nat} {D : Array Nat} (h : ¬ i < j) : Sort.reverseLoop i j D = D := by rw [Sort.reverseLoop, if_neg h]

set_option maxRecDepth 100000 in
set_option maxHeartbeats 2000000 in
theorem reverse_any (c a b : Nat) (hab : a < b) (hbn : b ≤ n) (hn : n ≤ 1000000000) (H : Rw w0 blk off n d W) :
    Calls Try.prog 53 #[.slice (some ⟨blk, off, none⟩) n c, .int .i64 a, .int .i64 b] W fun e w' => e = .returned (.tuple #[]) ∧ Hid (Rw w0 blk off n (Sort.reverseRange d a b) w') := by
  have H0 := Lib.hid H
  clear H
  go_enter Try.func53, Try.ntmps53
  go_wp2_with fail
  go_loopw [6, 7] (fun s6 s7 wr => ∃ (i j : Nat) (dk : Array Nat), s6 = .int .i64 i ∧ s7 = .int .i64 j ∧ i ≤ b ∧ j < b ∧ Hid (Rw w0 blk off n dk wr) ∧ Hid (Sort.reverseLoop i j dk = Sort.reverseRange d a b)) (fun _ s7 _ => (intOf s7).toNat)
  case atStart => exact ⟨a, b - 1, d, rfl, by go_num, by omega, by omega, H0, rfl⟩
  case round =>
    obtain ⟨i, j, dk, rfl, rfl, hi, hj, H1, E1⟩ := hrel
    clear H0
    by_cases hij : i < j
    · have E2 := Lib.hid ((rev_go hij).symm.trans E1.out)
      clear E1
      obtain ⟨G, hG, hc, hf⟩ := H1.out.fam
      have HG := Lib.hid hG
      clear hG
      obtain ⟨um, hm⟩ := H1.out.mid (i) (j) (by omega) (by omega) (.int .u32 (G (j) : Int))
      have b1 : i < n := by omega
      have b2 : j < n := by omega
      go_wp2_with fail
      go_region
      clear b1 b2 hm
      go_wp2_with fail
      go_roundw
      case rel => exact ⟨i + 1, j - 1, _, by go_num, by go_num, by omega, by omega, (H1.out.swap HG.out i j (by omega) (by omega)).drew, E2⟩
      case measure => simp [intOf]; omega
    · go_wp2_with fail
      go_end0
      exact ⟨rfl, H1.out.cast ((rev_end hij).symm.trans E1.out)⟩

/-- The row, and the count of exchanges in its box. -/
structure Ct (w0 : World) (blk off n : Nat) (d : Array Nat) (q m : Nat) (W : World) : Prop where
  row : Rw w0 blk off n d W
  cnt : ∃ s : Nat, s ≤ m ∧ W.cell? ⟨q, 0, none⟩ = some (.int .i64 (s : Int))
  fz : W.frozen? ⟨q, 0, none⟩ = false
  new : w0.heap.size ≤ q
variable {q m : Nat}
theorem Ct.drewN (h : Ct w0 blk off n d q m W) (k : Nat) : Ct w0 blk off n d q m (W.drewN k) := ⟨h.row.drewN k, h.cnt, h.fz, h.new⟩
theorem Ct.more (h : Ct w0 blk off n d q m W) {m' : Nat} (hm : m ≤ m') : Ct w0 blk off n d q m' W := ⟨h.row, h.cnt.imp fun _ ⟨a, b⟩ => ⟨Nat.le_trans a hm, b⟩, h.fz, h.new⟩
theorem Ct.bump (h : Ct w0 blk off n d q m W) (s : Nat) (hs : s ≤ m + 1) : Ct w0 blk off n d q (m + 1) (W.setCell ⟨q, 0, none⟩ (.int .i64 (s : Int))) := by
  obtain ⟨s0, _, hc⟩ := h.cnt
  exact ⟨h.row.box q 0 _ h.new, ⟨s, hs, World.cell?_setCell_same _ _ _ hc⟩, by rw [World.frozen?_setCell]; exact h.fz, h.new⟩

set_option maxRecDepth 100000 in
theorem order2_any (c x y : Nat) (hx : x < n) (hy : y < n) (hm : m ≤ 100) (H : Ct w0 blk off n d q m W) :
    Calls Try.prog 79 #[.slice (some ⟨blk, off, none⟩) n c, .int .i64 x, .int .i64 y, .pointer (some ⟨q, 0, none⟩)] W fun e w' => ∃ r1 r2 : Nat, ((r1 = x ∧ r2 = y) ∨ (r1 = y ∧ r2 = x)) ∧ e = .returned (.tuple #[.int .i64 r1, .int .i64 r2]) ∧ Hid (Ct w0 blk off n d q (m + 1) w') := by
  obtain ⟨G, hG, hc, hf⟩ := H.row.fam
  clear hG
  obtain ⟨s, hs, hcs⟩ := H.cnt
  have hfs := H.fz
  have H0 := Lib.hid H
  clear H
  go_enter Try.func79, Try.ntmps79
  go_wp2_with fail
  go_quiet ((go_at_call 55; refine quietS (less_any _ _ _)))
  go_wp2_with fail
  · go_ret2
    exact ⟨y, x, .inr ⟨rfl, rfl⟩, rfl, (H0.out.drewN _).bump (s + 1) (by omega)⟩
  · go_ret2
    exact ⟨x, y, .inl ⟨rfl, rfl⟩, rfl, (H0.out.drewN _).more (Nat.le_succ _)⟩

set_option maxRecDepth 100000 in
theorem median_any (c x y z : Nat) (hx : x < n) (hy : y < n) (hz : z < n) (hm : m ≤ 90) (H : Ct w0 blk off n d q m W) :
    Calls Try.prog 69 #[.slice (some ⟨blk, off, none⟩) n c, .int .i64 x, .int .i64 y, .int .i64 z, .pointer (some ⟨q, 0, none⟩)] W fun e w' => ∃ r : Nat, (r = x ∨ r = y ∨ r = z) ∧ e = .returned (.int .i64 r) ∧ Hid (Ct w0 blk off n d q (m + 3) w') := by
  have O := Lib.hid (fun x y W m hx hy hm (H : Ct w0 blk off n d q m W) => order2_any c x y hx hy hm H)
  have C1 := Lib.hid (O.out x y W m hx hy (by omega) H)
  clear H
  go_enter Try.func69, Try.ntmps69
  go_wp2_with fail
  refine C1.out.mono ?_
  rintro e w1 ⟨a1, b1, h1, rfl, H1⟩
  have C2 := Lib.hid (O.out b1 z w1 (m + 1) (by omega) hz (by omega) H1.out)
  clear C1 H1
  go_wp2_with fail
  refine C2.out.mono ?_
  rintro e w2 ⟨b2, c2, h2, rfl, H2⟩
  have C3 := Lib.hid (O.out a1 b2 w2 (m + 1 + 1) (by omega) (by omega) (by omega) H2.out)
  clear C2 H2
  go_wp2_with fail
  refine C3.out.mono ?_
  rintro e w3 ⟨a3, b3, h3, rfl, H3⟩
  clear C3
  go_wp2_with fail
  go_ret
  exact ⟨b3, by omega, rfl, H3⟩

set_option maxRecDepth 100000 in
theorem medianAdj_any (c x : Nat) (hx0 : 1 ≤ x) (hx : x + 1 < n) (hn : n ≤ 1000000000) (hm : m ≤ 90) (H : Ct w0 blk off n d q m W) :
    Calls Try.prog 68 #[.slice (some ⟨blk, off, none⟩) n c, .int .i64 x, .pointer (some ⟨q, 0, none⟩)] W fun e w' => ∃ r : Nat, (r + 1 = x ∨ r = x ∨ r = x + 1) ∧ e = .returned (.int .i64 r) ∧ Hid (Ct w0 blk off n d q (m + 3) w') := by
  have M := median_any c (x - 1) x (x + 1) (by omega) (by omega) (by omega) hm H
  rw [show ((x - 1 : Nat) : Int) = (x : Int) - 1 by omega, show ((x + 1 : Nat) : Int) = (x : Int) + 1 by omega] at M
  have M := Lib.hid M
  clear H
  go_enter Try.func68, Try.ntmps68
  go_wp2_with fail
  refine M.out.mono ?_
  rintro e w1 ⟨r, hr, rfl, H1⟩
  clear M
  go_wp2_with fail
  go_ret
  exact ⟨r, by omega, rfl, H1⟩
end Go.Proofs.Ytcfpdflaabfdkaa
