/- slices.Sort of numbers: the reversal, the choice of a pivot. -/
import Derived.Test.YtefodmbaknedkaaSoA
import Derived.Test.YtefodmbaknedkaaShelf
namespace Go.Proofs.Ytefodmbaknedkaa
open Go.RowKit

variable {w0 W : World} {blk off n : Nat} {d : Array Nat}
theorem rev_go {i j : Nat} {D : Array Nat} (h : i < j) : Sort.reverseLoop i j D = Sort.reverseLoop (i + 1) (j - 1) (Sort.swp D i j) := by rw [Sort.reverseLoop, if_pos h]
theorem rev_end {i j : Nat} {D : Array Nat} (h : ¬ i < j) : Sort.reverseLoop i j D = D := by rw [Sort.reverseLoop, if_neg h]

set_option maxRecDepth 100000 in
set_option maxHeartbeats 2000000 in
theorem reverse_any (c a b : Nat) (hab : a < b) (hbn : b ≤ n) (hn : n ≤ 1000000000) (H : Rw w0 blk off n d W) :
    Calls Try.prog 54 #[.slice (some ⟨blk, off, none⟩) n c, .int .i64 a, .int .i64 b] W fun e w' => e = .returned (.tuple #[]) ∧ Hid (Rw w0 blk off n (Sort.reverseRange d a b) w') := by
  have H0 := Lib.hid H
  clear H
  go_enter Try.func54, Try.ntmps54
  go_wp2_with fail
  go_loopw [6, 7] (fun s6 s7 wr => ∃ (i j : Nat) (dk : Array Nat), s6 = .int .i64 i ∧ s7 = .int .i64 j ∧ i ≤ b ∧ j < b ∧ Hid (Rw w0 blk off n dk wr) ∧ Hid (Sort.reverseLoop i j dk = Sort.reverseRange d a b)) (fun _ s7 _ => (intOf s7).toNat)
  case atStart => exact ⟨a, b - 1, d, rfl, by go_num, by omega, by omega, H0, rfl⟩
  case round =>
    obtain ⟨i, j, dk, rfl, rfl, hi, hj, H1, E1⟩ := hrel
    clear H0
    by_cases hij : i < j
    · have E2 := Lib.hid ((rev_go hij).symm.trans E1.out)
      clear E1
      obtain ⟨G, hG, hc, hf⟩ := H1.out.fam
      have HG := Lib.hid hG
      clear hG
      obtain ⟨um, hm⟩ := H1.out.mid (i) (j) (by omega) (by omega) (.int .u32 (G (j) : Int))
      have b1 : i < n := by omega
      have b2 : j < n := by omega
      go_wp2_with fail
      go_region
      clear b1 b2 hm
      go_wp2_with fail
      go_roundw
      case rel => exact ⟨i + 1, j - 1, _, by go_num, by go_num, by omega, by omega, (H1.out.swap HG.out i j (by omega) (by omega)).drew, E2⟩
      case measure => simp [intOf]; omega
    · go_wp2_with fail
      go_end0
      exact ⟨rfl, H1.out.cast ((rev_end hij).symm.trans E1.out)⟩

/-- The row, and the count of exchanges in its box. -/
structure Ct (w0 : World) (blk off n : Nat) (d : Array Nat) (q m : Nat) (W : World) : Prop where
  row : Rw w0 blk off n d W
  cnt : ∃ s : Nat, s ≤ m ∧ W.cell? ⟨q, 0, none⟩ = some (.int .i64 (s : Int))
  fz : W.frozen? ⟨q, 0, none⟩ = false
  new : w0.heap.size ≤ q
variable {q m : Nat}
theorem Ct.drewN (h : Ct w0 blk off n d q m W) (k : Nat) : Ct w0 blk off n d q m (W.drewN k) := ⟨h.row.drewN k, h.cnt, h.fz, h.new⟩
theorem Ct.more (h : Ct w0 blk off n d q m W) {m' : Nat} (hm : m ≤ m') : Ct w0 blk off n d q m' W := ⟨h.row, h.cnt.imp fun _ ⟨a, b⟩ => ⟨Nat.le_trans a hm, b⟩, h.fz, h.new⟩
theorem Ct.bump (h : Ct w0 blk off n d q m W) (s : Nat) (hs : s ≤ m + 1) : Ct w0 blk off n d q (m + 1) (W.setCell ⟨q, 0, none⟩ (.int .i64 (s : Int))) := by
  obtain ⟨s0, _, hc⟩ := h.cnt
  exact ⟨h.row.box q 0 _ h.new, ⟨s, hs, World.cell?_setCell_same _ _ _ hc⟩, by rw [World.frozen?_setCell]; exact h.fz, h.new⟩

set_option maxRecDepth 100000 in
theorem order2_any (c x y : Nat) (hx : x < n) (hy : y < n) (hm : m ≤ 100) (H : Ct w0 blk off n d q m W) :
    Calls Try.prog 67 #[.slice (some ⟨blk, off, none⟩) n c, .int .i64 x, .int .i64 y, .pointer (some ⟨q, 0, none⟩)] W fun e w' => ∃ r1 r2 : Nat, ((r1 = x ∧ r2 = y) ∨ (r1 = y ∧ r2 = x)) ∧ e = .returned (.tuple #[.int .i64 r1, .int .i64 r2]) ∧ Hid (Ct w0 blk off n d q (m + 1) w') := by
  obtain ⟨G, hG, hc, hf⟩ := H.row.fam
  clear hG
  obtain ⟨s, hs, hcs⟩ := H.cnt
  have hfs := H.fz
  have H0 := Lib.hid H
  clear H
  go_enter Try.func67, Try.ntmps67
  go_wp2_with fail
  go_quiet ((go_at_call 56; refine quietS (less_any _ _ _)))
  go_wp2_with fail
  · go_ret2
    exact ⟨y, x, .inr ⟨rfl, rfl⟩, rfl, (H0.out.drewN _).bump (s + 1) (by omega)⟩
  · go_ret2
    exact ⟨x, y, .inl ⟨rfl, rfl⟩, rfl, (H0.out.drewN _).more (Nat.le_succ _)⟩

set_option maxRecDepth 100000 in
theorem median_any (c x y z : Nat) (hx : x < n) (hy : y < n) (hz : z < n) (hm : m ≤ 90) (H : Ct w0 blk off n d q m W) :
    Calls Try.prog 65 #[.slice (some ⟨blk, off, none⟩) n c, .int .i64 x, .int .i64 y, .int .i64 z, .pointer (some ⟨q, 0, none⟩)] W fun e w' => ∃ r : Nat, (r = x ∨ r = y ∨ r = z) ∧ e = .returned (.int .i64 r) ∧ Hid (Ct w0 blk off n d q (m + 3) w') := by
  have O := Lib.hid (fun x y W m hx hy hm (H : Ct w0 blk off n d q m W) => order2_any c x y hx hy hm H)
  have C1 := Lib.hid (O.out x y W m hx hy (by omega) H)
  clear H
  go_enter Try.func65, Try.ntmps65
  go_wp2_with fail
  refine C1.out.mono ?_
  rintro e w1 ⟨a1, b1, h1, rfl, H1⟩
  have C2 := Lib.hid (O.out b1 z w1 (m + 1) (by omega) hz (by omega) H1.out)
  clear C1 H1
  go_wp2_with fail
  refine C2.out.mono ?_
  rintro e w2 ⟨b2, c2, h2, rfl, H2⟩
  have C3 := Lib.hid (O.out a1 b2 w2 (m + 1 + 1) (by omega) (by omega) (by omega) H2.out)
  clear C2 H2
  go_wp2_with fail
  refine C3.out.mono ?_
  rintro e w3 ⟨a3, b3, h3, rfl, H3⟩
  clear C3
  go_wp2_with fail
  go_ret
  exact ⟨b3, by omega, rfl, H3⟩

set_option maxRecDepth 100000 in
theorem medianAdj_any (c x : Nat) (hx0 : 1 ≤ x) (hx : x + 1 < n) (hn : n ≤ 1000000000) (hm : m ≤ 90) (H : Ct w0 blk off n d q m W) :
    Calls Try.prog 64 #[.slice (some ⟨blk, off, none⟩) n c, .int .i64 x, .pointer (some ⟨q, 0, none⟩)] W fun e w' => ∃ r : Nat, (r + 1 = x ∨ r = x ∨ r = x + 1) ∧ e = .returned (.int .i64 r) ∧ Hid (Ct w0 blk off n d q (m + 3) w') := by
  have M := median_any c (x - 1) x (x + 1) (by omega) (by omega) (by omega) hm H
  rw [show ((x - 1 : Nat) : Int) = (x : Int) - 1 by omega, show ((x + 1 : Nat) : Int) = (x : Int) + 1 by omega] at M
  have M := Lib.hid M
  clear H
  go_enter Try.func64, Try.ntmps64
  go_wp2_with fail
  refine M.out.mono ?_
  rintro e w1 ⟨r, hr, rfl, H1⟩
  clear M
  go_wp2_with fail
  go_ret
  exact ⟨r, by omega, rfl, H1⟩
end Go.Proofs.Ytefodmbaknedkaa

namespace Go.Proofs.Ytefodmbaknedkaa
open Go.RowKit

variable {w0 W : World} {blk off n : Nat} {d : Array Nat}
set_option maxRecDepth 100000 in
set_option maxHeartbeats 4000000 in
theorem pivot_any (c a b : Nat) (hab : a + 12 < b) (hbn : b ≤ n) (hn : n ≤ 1000000000) (H : Rw w0 blk off n d W) :
    Calls Try.prog 53 #[.slice (some ⟨blk, off, none⟩) n c, .int .i64 a, .int .i64 b] W fun e w' => ∃ p h : Nat, a ≤ p ∧ p < b ∧ e = .returned (.tuple #[.int .i64 p, .int .i64 h]) ∧ Hid (Rw w0 blk off n d w') := by
  obtain ⟨k, hk⟩ : ∃ k, k = (b - a) / 4 := ⟨_, rfl⟩
  have ek : ((b : Int) - (a : Int)) / 4 = (k : Int) := by omega
  have hk3 : 3 ≤ k := by omega
  have hk4 : 4 * k ≤ b - a := by omega
  have hk5 : 50 ≤ b - a → 12 ≤ k := by omega
  clear hk
  have C0 := Lib.hid (show Ct w0 blk off n d W.heap.size 0 (W.alloc (.cells #[.int .i64 0] 3)) from ⟨H.alloc _, ⟨0, Nat.le_refl _, by simp⟩, by simp, H.sw.le⟩)
  have MD := Lib.hid (fun x y z W' m hx hy hz hm (H : Ct w0 blk off n d W.heap.size m W') => median_any c x y z hx hy hz hm H)
  have MA := Lib.hid (fun x W' m hx0 hx hm (H : Ct w0 blk off n d W.heap.size m W') => medianAdj_any c x hx0 hx hn hm H)
  clear H
  go_enter Try.func53, Try.ntmps53
  by_cases h50 : 50 ≤ b - a
  · have M1 := MA.out (a + k) _ 0 (by omega) (by omega) (by omega) C0.out
    rw [show ((a + k : Nat) : Int) = (a : Int) + (k : Int) by omega] at M1
    have M1 := Lib.hid M1
    clear C0
    have hb8 : (8 : Int) ≤ (b : Int) - (a : Int) := by omega
    have hb50 : (50 : Int) ≤ (b : Int) - (a : Int) := by omega
    go_wp2_with fail
    refine M1.out.mono ?_
    rintro e w1 ⟨r1, h1, rfl, H1⟩
    have M2 := MA.out (a + k * 2) w1 (0 + 3) (by omega) (by omega) (by omega) H1.out
    rw [show ((a + k * 2 : Nat) : Int) = (a : Int) + (k : Int) * 2 by omega] at M2
    have M2 := Lib.hid M2
    clear M1 H1
    go_wp2_with fail
    refine M2.out.mono ?_
    rintro e w2 ⟨r2, h2, rfl, H2⟩
    have M3 := MA.out (a + k * 3) w2 (0 + 3 + 3) (by omega) (by omega) (by omega) H2.out
    rw [show ((a + k * 3 : Nat) : Int) = (a : Int) + (k : Int) * 3 by omega] at M3
    have M3 := Lib.hid M3
    clear M2 H2
    go_wp2_with fail
    refine M3.out.mono ?_
    rintro e w3 ⟨r3, h3, rfl, H3⟩
    have M4 := Lib.hid (MD.out r1 r2 r3 w3 (0 + 3 + 3 + 3) (by omega) (by omega) (by omega) (by omega) H3.out)
    clear M3 H3
    go_wp2_with fail
    refine M4.out.mono ?_
    rintro e w4 ⟨r4, h4, rfl, H4⟩
    have hp1 : a ≤ r4 := by omega
    have hp2 : r4 < b := by omega
    clear M4 h1 h2 h3 h4
    obtain ⟨s, hs, hcs⟩ := H4.out.cnt
    go_wp2_with fail
    all_goals go_ret2
    · exact ⟨r4, 1, hp1, hp2, rfl, H4.out.row⟩
    · exact ⟨r4, 2, hp1, hp2, rfl, H4.out.row⟩
    · exact ⟨r4, 0, hp1, hp2, rfl, H4.out.row⟩
  · have M4 := MD.out (a + k) (a + k * 2) (a + k * 3) _ 0 (by omega) (by omega) (by omega) (by omega) C0.out
    rw [show ((a + k : Nat) : Int) = (a : Int) + (k : Int) by omega, show ((a + k * 2 : Nat) : Int) = (a : Int) + (k : Int) * 2 by omega, show ((a + k * 3 : Nat) : Int) = (a : Int) + (k : Int) * 3 by omega] at M4
    have M4 := Lib.hid M4
    clear C0
    have hb8 : (8 : Int) ≤ (b : Int) - (a : Int) := by omega
    have hb50 : ¬ (50 : Int) ≤ (b : Int) - (a : Int) := by omega
    go_wp2_with fail
    refine M4.out.mono ?_
    rintro e w4 ⟨r4, h4, rfl, H4⟩
    have hp1 : a ≤ r4 := by omega
    have hp2 : r4 < b := by omega
    clear M4 h4
    obtain ⟨s, hs, hcs⟩ := H4.out.cnt
    go_wp2_with fail
    all_goals go_ret2
    · exact ⟨r4, 1, hp1, hp2, rfl, H4.out.row⟩
    · exact ⟨r4, 0, hp1, hp2, rfl, H4.out.row⟩

/-- The row, and the random number in its box. -/
structure Bx (w0 : World) (blk off n : Nat) (d : Array Nat) (q X : Nat) (W : World) : Prop where
  row : Rw w0 blk off n d W
  cell : W.cell? ⟨q, 0, none⟩ = some (.int .u64 (X : Int))
  fz : W.frozen? ⟨q, 0, none⟩ = false
  new : w0.heap.size ≤ q
theorem Bx.next {q X : Nat} (h : Bx w0 blk off n d q X W) (Y : Nat) : Bx w0 blk off n d q Y ((W.setCell ⟨q, 0, none⟩ (.int .u64 (Y : Nat))).drewN 3) :=
  ⟨(h.row.box q 0 _ h.new).drewN 3, World.cell?_setCell_same _ _ _ h.cell, by rw [← h.fz]; exact World.frozen?_setCell _ _ _ _, h.new⟩
theorem Bx.drew {q X : Nat} (h : Bx w0 blk off n d q X W) : Bx w0 blk off n d q X W.drew := ⟨h.row.drew, h.cell, h.fz, h.new⟩
theorem Bx.swap {q X : Nat} (h : Bx w0 blk off n d q X W) {G : Nat → Nat} (hG : ∀ t, G t = d[t]!) (i j : Nat) (hi : i < n) (hj : j < n) :
    Bx w0 blk off n (Sort.swp d i j) q X ((W.setCell ⟨blk, off + i, none⟩ (.int .u32 (G j : Int))).setCell ⟨blk, off + j, none⟩ (.int .u32 (G i : Int))) := by
  have hne : ∀ o : Nat, (⟨q, 0, none⟩ : Addr) ≠ ⟨blk, o, none⟩ := fun o e => by
    have h1 := h.new
    have h2 := h.row.lt
    injection e with e
    omega
  exact ⟨h.row.swap hG i j hi hj, by rw [World.cell?_setCell_other _ _ _ _ (fun e => hne _ e.symm), World.cell?_setCell_other _ _ _ _ (fun e => hne _ e.symm)]; exact h.cell, by rw [World.frozen?_setCell, World.frozen?_setCell]; exact h.fz, h.new⟩
theorem and_lt (r M L : Nat) (hM : M ≤ 2 * L) (hM1 : 1 ≤ M) : r &&& (M - 1) < 2 * L := Nat.lt_of_le_of_lt Nat.and_le_right (by omega)

set_option maxRecDepth 100000 in
set_option maxHeartbeats 4000000 in
theorem break_any (c a b : Nat) (hab : a + 12 < b) (hbn : b ≤ n) (hn : n ≤ 1000000000) (H : Rw w0 blk off n d W) :
    Calls Try.prog 52 #[.slice (some ⟨blk, off, none⟩) n c, .int .i64 a, .int .i64 b] W fun e w' => ∃ D : Array Nat, Sort.PermIn a b d D ∧ e = .returned (.tuple #[]) ∧ Hid (Rw w0 blk off n D w') := by
  obtain ⟨L, hL1, hL2⟩ : ∃ L, b ≤ a + L ∧ a + L ≤ b := ⟨b - a, by omega, by omega⟩
  obtain ⟨M, hM⟩ : ∃ M : Nat, M = 1 <<< Sort.bitsLen L := ⟨_, rfl⟩
  have hM2 : M ≤ 2 * L := by rw [hM, Nat.one_shiftLeft]; exact Sort.two_pow_bitsLen_le (by omega)
  have hM1 : 1 ≤ M := by rw [hM, Nat.one_shiftLeft]; exact Nat.one_le_two_pow
  have PW := Lib.hid (fun W => by
    have := AnyF.nextPowerOfTwo Try.laysPow L (by omega) W
    rw [← hM, show ((L : Nat) : Int) = (b : Int) - (a : Int) by omega] at this
    exact this)
  have XS := Lib.hid (fun q X hX W h1 h2 => AnyF.xorshift_Next Try.laysXor q 0 X hX W h1 h2)
  obtain ⟨k, hk⟩ : ∃ k, k = (b - a) / 4 := ⟨_, rfl⟩
  have ek : ((b : Int) - (a : Int)) / 4 = (k : Int) := by omega
  have hk3 : 3 ≤ k := by omega
  have hk4 : 4 * k ≤ b - a := by omega
  have hb8 : (8 : Int) ≤ (b : Int) - (a : Int) := by omega
  have ew : IntKind.u64.wrap ((b : Int) - (a : Int)) = (b : Int) - (a : Int) := IntWalk.u64_in _ (by omega)
  have em : IntKind.u64.wrap ((M : Int) - 1) = (M : Int) - 1 := IntWalk.u64_in _ (by omega)
  obtain ⟨T, hT1, hT2⟩ : ∃ T, a + 2 * k ≤ T + 1 ∧ T + 1 ≤ a + 2 * k := ⟨a + 2 * k - 1, by omega, by omega⟩
  have B0 := Lib.hid (show Bx w0 blk off n d W.heap.size L (W.alloc (.cells #[.int .u64 ((b : Int) - (a : Int))] 93)) from ⟨H.alloc _, by rw [show ((L : Nat) : Int) = (b : Int) - (a : Int) by omega]; simp, by simp, H.sw.le⟩)
  clear hM hk H
  go_enter Try.func52, Try.ntmps52
  go_wp2_with fail
  refine (PW.out _).mono ?_
  rintro e w1 ⟨rfl, rfl⟩
  go_wp2_with fail
  simp only [ek]
  go_loopw [9] (fun s9 wr => ∃ (t X : Nat) (D : Array Nat), s9 = .int .i64 (t : Int) ∧ T ≤ t ∧ t ≤ T + 3 ∧ X < 18446744073709551616 ∧ Hid (Bx w0 blk off n D W.heap.size X wr) ∧ Hid (Sort.PermIn a b d D)) (fun s9 _ => T + 3 - (intOf s9).toNat)
  case atStart => exact ⟨T, L, d, by congr 1; omega, Nat.le_refl _, by omega, by omega, B0, Sort.permIn_refl _ _ _⟩
  case round =>
    obtain ⟨t, X, D, rfl, ht1, ht2, hX, B1, P1⟩ := hrel
    clear B0
    by_cases ht : t ≤ T + 2
    · have hti : (t : Int) ≤ (a : Int) + (k : Int) * 2 + 1 := by omega
      have XC := Lib.hid (XS.out W.heap.size X hX wr B1.out.cell B1.out.fz)
      have hY := Sort.xorNextN_lt X hX
      have B2 := Lib.hid (B1.out.next (Sort.xorNextN X))
      clear B1
      generalize Sort.xorNextN X = Y at *
      obtain ⟨o, ho, ho2⟩ : ∃ o : Nat, bits .and .u64 (Y : Int) ((M : Int) - 1) = (o : Int) ∧ o < 2 * L := ⟨Y &&& (M - 1), by
        rw [show (M : Int) - 1 = ((M - 1 : Nat) : Int) by omega]
        exact u64_and_nat _ _ hY (by omega), and_lt Y M L hM2 hM1⟩
      go_wp2_with fail
      refine XC.out.mono ?_
      rintro e w2 ⟨rfl, rfl⟩
      generalize (wr.setCell _ _).drewN 3 = w3 at *
      have P2 := Lib.hid (fun i j (h1 : a ≤ i) (h2 : i < b) (h3 : a ≤ j) (h4 : j < b) => Sort.permIn_trans _ _ _ _ _ P1.out (Sort.swp_permIn D a b i j h1 h2 h3 h4 (by rw [B2.out.row.sz]; exact hbn)))
      clear P1 XC
      by_cases hol : L ≤ o
      · obtain ⟨p, hp, hpL⟩ : ∃ p : Nat, (o : Int) - ((b : Int) - (a : Int)) = (p : Int) ∧ p < L := ⟨o - L, by omega, by omega⟩
        have hoi : (b : Int) - (a : Int) ≤ (o : Int) := by omega
        obtain ⟨G, hG, hc, hf⟩ := B2.out.row.fam
        have HG := Lib.hid hG
        clear hG
        obtain ⟨um, hm⟩ := B2.out.row.mid t (a + p) (by omega) (by omega) (.int .u32 (G (a + p) : Int))
        have b1 : t < n := by omega
        have b2 : a + p < n := by omega
        go_wp2_with fail
        go_region
        go_wp2_with fail
        go_roundw
        case rel => exact ⟨t + 1, Y, _, by go_num, by omega, by omega, hY, (B2.out.swap HG.out t (a + p) (by omega) (by omega)).drew, P2.out _ _ (by omega) (by omega) (by omega) (by omega)⟩
        case measure => simp [intOf]; omega
      · have hoi : ¬ (b : Int) - (a : Int) ≤ (o : Int) := by omega
        obtain ⟨G, hG, hc, hf⟩ := B2.out.row.fam
        have HG := Lib.hid hG
        clear hG
        obtain ⟨um, hm⟩ := B2.out.row.mid t (a + o) (by omega) (by omega) (.int .u32 (G (a + o) : Int))
        have b1 : t < n := by omega
        have b2 : a + o < n := by omega
        go_wp2_with fail
        go_region
        go_wp2_with fail
        go_roundw
        case rel => exact ⟨t + 1, Y, _, by go_num, by omega, by omega, hY, (B2.out.swap HG.out t (a + o) (by omega) (by omega)).drew, P2.out _ _ (by omega) (by omega) (by omega) (by omega)⟩
        case measure => simp [intOf]; omega
    · have hti : ¬ (t : Int) ≤ (a : Int) + (k : Int) * 2 + 1 := by omega
      go_wp2_with fail
      go_end0
      exact ⟨D, P1.out, rfl, B1.out.row⟩
end Go.Proofs.Ytefodmbaknedkaa
