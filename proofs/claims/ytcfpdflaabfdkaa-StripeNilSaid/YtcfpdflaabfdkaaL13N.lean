/- The law StripeNil. -/
import Derived.Test.YtcfpdflaabfdkaaL13Z
import Derived.Test.YtcfpdflaabfdkaaL13P
namespace Go.Proofs.Ytcfpdflaabfdkaa
open Go.RowKit

theorem bx {g : Nat} {m : MI} {w w' : World} (h : M3 w g m) (hb : Below w.heap.size w w') : M3 w' g m := h.below hb

set_option maxRecDepth 100000 in
set_option maxHeartbeats 4000000 in
theorem nil_small (m : MI) (hok : MIok m) (h3 : m.b.length ≤ 300) (w : World) (hby : ByAt w.heap.size w m.A m.k m.b) :
    Calls Try.prog 8 #[msV m] w fun e w' => e = .returned (.bool true) ∧ Below w.heap.size w w' := by
  unfold msV
  have h3i : ¬ (300 : Int) < (m.b.length : Int) := by omega
  have HOK := Lib.hid hok
  have HBY := Lib.hid hby
  have N := Lib.hid (fun W => tnew_any 2 (by omega) W)
  have hal := Lib.hid (below_al w (.cells #[.int .u32 (m.u : Int), .int .u8 (m.f : Int), .slice m.A m.b.length m.k] 33))
  have hM0 := Lib.hid (M3.new (W := w) (m := m) rfl)
  clear hok hby h3
  go_enter Try.func8, Try.ntmps8
  go_wp2_with fail
  refine (N.out _).mono ?_
  rintro e w1 ⟨ga, Sa, rfl, ta, sa, hb1⟩
  have TA := Lib.hid ta
  have SA := Lib.hid (show ∀ k, Sa k → w.heap.size + 1 ≤ k from fun k hk => by have := sa k hk; rw [World.size_alloc] at this; omega)
  have M1 := Lib.hid (hM0.out.below hb1)
  have B1 := Lib.hid (below_next hal.out hb1)
  clear ta sa hb1 hM0 hal
  go_wp2_with fail
  refine (N.out _).mono ?_
  rintro e w2 ⟨gb, Sb, rfl, tb, sb, hb2⟩
  have TB := Lib.hid tb
  have TA2 := Lib.hid (TA.out.kept (KeptO.of_below (S := fun _ => False) hb2) fun _ _ e => e)
  have SB := Lib.hid (show ∀ k, Sb k → w.heap.size ≤ k from fun k hk => by have := sb k hk; have := B1.out.size; omega)
  have HD := Lib.hid (show ∀ k, Sb k → ¬ Sa k from fun k h2 h1 => by have := TA.out.lt k h1; have := sb k h2; omega)
  have M2 := Lib.hid (M1.out.below hb2)
  have B2 := Lib.hid (below_next B1.out hb2)
  obtain ⟨p0, p1, p2⟩ := M2.out.cells
  have PU := Lib.hid (tput_any m HOK.out.u HOK.out.f ((HBY.out.below B2.out).mono B2.out.size) (by_out (HBY.out.below B2.out) (fun k hk => by have := SA.out k hk; omega)) TA2.out (by simp))
  unfold msV at PU
  clear tb sb hb2 TA M1 B1 N
  go_wp2_with fail
  refine PU.out.mono ?_
  rintro e w3 ⟨S3, rfl, t3, m3, k3⟩
  have TB3 := Lib.hid (TB.out.kept k3 HD.out)
  have hng : ¬ Sa w.heap.size := fun h => by have := SA.out _ h; omega
  have M3' := Lib.hid (show M3 w3 w.heap.size m from k3.heap M2.out hng)
  have B3 := Lib.hid (B2.out.trans (k3.below (fun k hk => by have := SA.out k hk; omega) B2.out.size))
  clear t3 m3 k3 TB HD TA2 PU p0 p1 p2 M2 B2 hng
  obtain ⟨p0, p1, p2⟩ := M3'.out.cells
  have G3 := Lib.hid (tget_nil m.u w3)
  go_wp2_with fail
  refine G3.out.mono ?_
  rintro e w4 ⟨x4, rfl, hb4⟩
  have hb4' := below_next hb4 (below_al w4 (.cells #[.int .u32 (x4.u : Int), .int .u8 (x4.f : Int), .slice x4.A x4.b.length x4.k] 33))
  have M4 := Lib.hid (M3'.out.below hb4')
  have TB4 := Lib.hid (TB3.out.kept (KeptO.of_below (S := fun _ => False) hb4') fun _ _ e => e)
  have B4 := Lib.hid (below_next B3.out hb4')
  clear p0 p1 p2 hb4 hb4' G3 M3' TB3 B3
  obtain ⟨p0, p1, p2⟩ := M4.out.cells
  unfold msV
  have G4 := Lib.hid (fun W => tremove_nil m.u W)
  go_wp2_with fail
  refine (G4.out _).mono ?_
  rintro e w5 ⟨x5, rfl, hb5⟩
  have hb5' := below_next hb5 (below_al w5 (.cells #[.int .u32 (x5.u : Int), .int .u8 (x5.f : Int), .slice x5.A x5.b.length x5.k] 33))
  have M5 := Lib.hid (M4.out.below hb5')
  have TB5 := Lib.hid (TB4.out.kept (KeptO.of_below (S := fun _ => False) hb5') fun _ _ e => e)
  have B5 := Lib.hid (below_next B4.out hb5')
  clear p0 p1 p2 hb5 hb5' G4 M4 TB4 B4
  obtain ⟨p0, p1, p2⟩ := M5.out.cells
  unfold msV
  have G5 := Lib.hid (fun W => tflags_nil m.u 0 0 W)
  go_wp2_with fail
  refine (G5.out _).mono ?_
  rintro e w6 ⟨rfl, hb6⟩
  have M6 := Lib.hid (M5.out.below hb6)
  have TB6 := Lib.hid (TB5.out.kept (KeptO.of_below (S := fun _ => False) hb6) fun _ _ e => e)
  have B6 := Lib.hid (below_next B5.out hb6)
  clear p0 p1 p2 hb6 G5 M5 TB5 B5
  obtain ⟨p0, p1, p2⟩ := M6.out.cells
  have G6 := Lib.hid (fun W => alive13_any W)
  go_wp2_with fail
  refine (G6.out _).mono ?_
  rintro e w7 ⟨rfl, hb7⟩
  have M7 := Lib.hid (M6.out.below hb7)
  have TB7 := Lib.hid (TB6.out.kept (KeptO.of_below (S := fun _ => False) hb7) fun _ _ e => e)
  have B7 := Lib.hid (below_next B6.out hb7)
  clear p0 p1 p2 hb7 G6 M6 TB6 B6
  obtain ⟨p0, p1, p2⟩ := M7.out.cells
  have G7 := Lib.hid (fun W => tput_nil m W)
  unfold msV at G7
  go_wp2_with fail
  refine (G7.out _).mono ?_
  rintro e w8 ⟨rfl, hb8⟩
  have M8 := Lib.hid (M7.out.below hb8)
  have TB8 := Lib.hid (TB7.out.kept (KeptO.of_below (S := fun _ => False) hb8) fun _ _ e => e)
  have B8 := Lib.hid (below_next B7.out hb8)
  clear p0 p1 p2 hb8 G7 M7 TB7 B7
  obtain ⟨p0, p1, p2⟩ := M8.out.cells
  have G8 := Lib.hid (fun W => tstripes_nil W)
  go_wp2_with fail
  refine (G8.out _).mono ?_
  rintro e w9 ⟨rfl, hb9⟩
  have M9 := Lib.hid (M8.out.below hb9)
  have TB9 := Lib.hid (TB8.out.kept (KeptO.of_below (S := fun _ => False) hb9) fun _ _ e => e)
  have B9 := Lib.hid (below_next B8.out hb9)
  clear p0 p1 p2 hb9 G8 M8 TB8 B8
  obtain ⟨p0, p1, p2⟩ := M9.out.cells
  have G9 := Lib.hid (fun W => tof_nil m.u W)
  go_wp2_with fail
  refine (G9.out _).mono ?_
  rintro e w10 ⟨rfl, hb10⟩
  have M10 := Lib.hid (M9.out.below hb10)
  have TB10 := Lib.hid (TB9.out.kept (KeptO.of_below (S := fun _ => False) hb10) fun _ _ e => e)
  have B10 := Lib.hid (below_next B9.out hb10)
  clear p0 p1 p2 hb10 G9 M9 TB9 B9
  obtain ⟨p0, p1, p2⟩ := M10.out.cells
  have G10 := Lib.hid (fun W => twith_nil 0 W)
  go_wp2_with fail
  refine (G10.out _).mono ?_
  rintro e w11 ⟨Z11, z11, rfl, hb11⟩
  have M11 := Lib.hid (M10.out.below hb11)
  have TB11 := Lib.hid (TB10.out.kept (KeptO.of_below (S := fun _ => False) hb11) fun _ _ e => e)
  have B11 := Lib.hid (below_next B10.out hb11)
  clear p0 p1 p2 hb11 G10 M10 TB10 B10
  obtain ⟨p0, p1, p2⟩ := M11.out.cells
  have G11 := Lib.hid (fun W => tsizes_nil W)
  go_wp2_with fail
  refine (G11.out _).mono ?_
  rintro e w12 ⟨Z12, z12, rfl, hb12⟩
  have M12 := Lib.hid (M11.out.below hb12)
  have TB12 := Lib.hid (TB11.out.kept (KeptO.of_below (S := fun _ => False) hb12) fun _ _ e => e)
  have B12 := Lib.hid (below_next B11.out hb12)
  clear p0 p1 p2 hb12 G11 M11 TB11 B11
  obtain ⟨p0, p1, p2⟩ := M12.out.cells
  have W1 := Lib.hid (twith_any 0 (Nat.zero_le _) TB12.out (by simp))
  go_wp2_with fail
  refine W1.out.mono ?_
  rintro e wl ⟨O, vl, Sl, rfl, hO, hOl, hol, tl, ml, kl⟩
  obtain ⟨Al, cl, rfl⟩ := own_any hol
  obtain rfl : O = [] := List.eq_nil_of_length_eq_zero (Nat.le_zero.1 hOl)
  have BL := B12.out.trans (kl.below (SB.out) B12.out.size)
  clear hol tl ml kl W1 p0 p1 p2 hO hOl
  go_wp2_with fail
  go_ret
  exact ⟨rfl, BL⟩

set_option maxRecDepth 100000 in
set_option maxHeartbeats 1000000 in
theorem nil_big (m : MI) (h3 : ¬ m.b.length ≤ 300) (w : World) :
    Calls Try.prog 8 #[msV m] w fun e w' => e = .returned (.bool true) ∧ Below w.heap.size w w' := by
  unfold msV
  have h3i : (300 : Int) < (m.b.length : Int) := by omega
  have AL := Lib.hid (fun W => alive13_any W)
  have hal := Lib.hid (below_al w (.cells #[.int .u32 (m.u : Int), .int .u8 (m.f : Int), .slice m.A m.b.length m.k] 33))
  go_enter Try.func8, Try.ntmps8
  go_wp2_with fail
  refine (AL.out _).mono ?_
  rintro e w1 ⟨rfl, hb1⟩
  have HB := below_next hal.out hb1
  go_wp2_with fail
  go_ret
  exact ⟨rfl, HB⟩
theorem stripeNil_any (m : MI) (hok : MIok m) (w : World) (hby : ByAt w.heap.size w m.A m.k m.b) :
    Calls Try.prog 8 #[msV m] w fun e w' => e = .returned (.bool true) ∧ Below w.heap.size w w' := by
  by_cases h : m.b.length ≤ 300
  · exact nil_small m hok h w hby
  · exact nil_big m h w
end Go.Proofs.Ytcfpdflaabfdkaa
