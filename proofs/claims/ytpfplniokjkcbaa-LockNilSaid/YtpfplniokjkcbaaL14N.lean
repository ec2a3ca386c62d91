/- The law LockNil. By wip/gen/mk14n.py. -/
import Derived.Test.YtpfplniokjkcbaaL14Z
namespace Go.Proofs.Ytpfplniokjkcbaa
open Go.RowKit

set_option maxRecDepth 100000 in
set_option maxHeartbeats 4000000 in
theorem lockNil_any (o : Int) (ho : -9223372036854775808 ≤ o ∧ o ≤ 9223372036854775807) (l : Int) (hl : -9223372036854775808 ≤ l ∧ l ≤ 9223372036854775807) (w : World) :
    Calls Try.prog 8 #[.int .i64 o, .int .i64 l] w fun e w' => e = .returned (.bool true) ∧ Below w.heap.size w w' := by
  have N := Lib.hid (fun W => lknew_any 3 (by omega) W)
  have E1 := Lib.hid (show acqL (List.replicate 3 (-1)) 1 1 = ([-1, 1, -1], 0) by decide)
  have E2 := Lib.hid (show freeL [-1, 1, -1] = false by decide)
  have E3 := Lib.hid (show freeL (List.replicate 3 (-1)) = true by decide)
  have HL := Lib.hid hl
  have HO := Lib.hid ho
  clear hl ho
  go_enter Try.func8, Try.ntmps8
  go_wp2_with fail
  refine (N.out _).mono ?_
  rintro e w1 ⟨ga, Sa, rfl, ta, sa, hb1⟩
  have TA := Lib.hid ta
  have SA := Lib.hid sa
  have B1 := Lib.hid hb1
  clear ta sa hb1
  go_wp2_with fail
  refine (N.out _).mono ?_
  rintro e w2 ⟨gb, Sb, rfl, tb, sb, hb2⟩
  have hb2k := KeptO.of_below (S := fun _ => False) hb2
  have TA2 := Lib.hid (TA.out.kept hb2k fun _ _ => id)
  have HD := Lib.hid (show ∀ k, Sb k → ¬ Sa k from fun k h2 h1 => by have := TA.out.lt k h1; have := sb k h2; omega)
  have TB := Lib.hid tb
  have SB := Lib.hid (show ∀ k, Sb k → w.heap.size ≤ k from fun k hk => Nat.le_trans B1.out.size (sb k hk))
  have B2 := Lib.hid (below_next B1.out hb2)
  have AQ := lkacq_any 1 1 (by decide) (by decide) (by decide) TA2.out
  rw [E1.out] at AQ
  have AQh := Lib.hid AQ
  clear tb sb hb2 hb2k N TA B1 AQ
  go_wp2_with fail
  refine AQh.out.mono ?_
  rintro e w3 ⟨Sc, rfl, t3, m3, k3⟩
  have TA3 := Lib.hid (show LkE w.heap.size ga [-1, 1, -1] (if (0 : Int) = 0 then 0 + 1 else 0) w w3 from ⟨⟨Sc, t3, fun j hj => (m3.2 j hj).elim (SA.out j) fun e => Nat.le_trans B2.out.size e⟩, B2.out.trans (k3.below SA.out B2.out.size), Nat.le_trans B2.out.size k3.size⟩)
  have TB3 := Lib.hid (show LkE w.heap.size gb (List.replicate 3 (-1)) 0 w w3 from ⟨⟨Sb, TB.out.kept k3 HD.out, SB.out⟩, TA3.out.2.1, TA3.out.2.2⟩)
  clear t3 m3 k3 AQh TA2 TB HD SA SB B2
  have C4 := Lib.hid (fun W => lkown_nil l W)
  go_wp2_with fail
  refine (C4.out _).mono ?_
  rintro e w4 ⟨rfl, hb⟩
  have TA4 := Lib.hid (TA3.out.below hb)
  have TB4 := Lib.hid (TB3.out.below hb)
  clear hb C4 TA3 TB3
  have C5 := Lib.hid (fun W => alive14_any W)
  go_wp2_with fail
  refine (C5.out _).mono ?_
  rintro e w5 ⟨rfl, hb⟩
  have TA5 := Lib.hid (TA4.out.below hb)
  have TB5 := Lib.hid (TB4.out.below hb)
  clear hb C5 TA4 TB4
  have C6 := Lib.hid (fun W => lkacq_nil o l W)
  go_wp2_with fail
  refine (C6.out _).mono ?_
  rintro e w6 ⟨rfl, hb⟩
  have TA6 := Lib.hid (TA5.out.below hb)
  have TB6 := Lib.hid (TB5.out.below hb)
  clear hb C6 TA5 TB5
  have C7 := Lib.hid (fun W => lkrel_nil o W)
  go_wp2_with fail
  refine (C7.out _).mono ?_
  rintro e w7 ⟨rfl, hb⟩
  have TA7 := Lib.hid (TA6.out.below hb)
  have TB7 := Lib.hid (TB6.out.below hb)
  clear hb C7 TA6 TB6
  have C8 := Lib.hid (fun W => lkheld_nil o W)
  go_wp2_with fail
  refine (C8.out _).mono ?_
  rintro e w8 ⟨Z, z, rfl, hb⟩
  have TA8 := Lib.hid (TA7.out.below hb)
  have TB8 := Lib.hid (TB7.out.below hb)
  clear hb C8 TA7 TB7
  have C9 := Lib.hid (fun W => lkfree_nil W)
  go_wp2_with fail
  refine (C9.out _).mono ?_
  rintro e w9 ⟨rfl, hb⟩
  have TA9 := Lib.hid (TA8.out.below hb)
  have TB9 := Lib.hid (TB8.out.below hb)
  clear hb C9 TA8 TB8
  have AL10 := Lib.hid (below_al w9 (.cells #[.int .i64 l] 3))
  have TA10 := Lib.hid (TA9.out.below AL10.out)
  have TB10 := Lib.hid (TB9.out.below AL10.out)
  have SL10 := Lib.hid (slAt_one w9 l)
  have C10 := Lib.hid (show ∀ W, SlAt encI 1 W (some ⟨w9.heap.size, 0, none⟩) [l] → Calls Try.prog 25 #[.pointer none, .int .i64 o, .slice (some ⟨w9.heap.size, 0, none⟩) 1 1] W fun e w' => e = .returned (.bool false) ∧ Below W.heap.size W w' from fun W h => lkblk_nil o _ 1 [l] (by simp) (by simpa using HL.out) W h)
  clear TA9 TB9 AL10
  go_wp2_with fail
  generalize w9.alloc _ = v10 at *
  refine (C10.out _ SL10.out).mono ?_
  rintro e w10 ⟨rfl, hb⟩
  have TA11 := Lib.hid (TA10.out.below hb)
  have TB11 := Lib.hid (TB10.out.below hb)
  clear hb C10 TA10 TB10
  have C12 := Lib.hid (fun W => lkcnt_nil W)
  go_wp2_with fail
  refine (C12.out _).mono ?_
  rintro e w12 ⟨rfl, hb⟩
  have TA12 := Lib.hid (TA11.out.below hb)
  have TB12 := Lib.hid (TB11.out.below hb)
  clear hb C12 TA11 TB11
  have C13 := Lib.hid (fun W => lklen_nil W)
  go_wp2_with fail
  refine (C13.out _).mono ?_
  rintro e w13 ⟨rfl, hb⟩
  have TA13 := Lib.hid (TA12.out.below hb)
  have TB13 := Lib.hid (TB12.out.below hb)
  clear hb C13 TA12 TB12
  obtain ⟨⟨Sx, tx, sx⟩, bx, zx⟩ := TB13.out
  have FB := lkfree_any tx
  rw [E3.out] at FB
  have FBh := Lib.hid FB
  clear FB tx sx bx zx
  go_wp2_with fail
  refine FBh.out.mono ?_
  rintro e wy ⟨rfl, hb⟩
  obtain ⟨⟨Sx, tx, sx⟩, bx, zx⟩ := TA13.out.below hb
  have FA := lkfree_any tx
  rw [E2.out] at FA
  have FAh := Lib.hid FA
  have BX := Lib.hid bx
  have ZX := Lib.hid zx
  clear FA tx sx bx zx hb FBh TA13 TB13
  go_wp2_with fail
  refine FAh.out.mono ?_
  rintro e wz ⟨rfl, hb⟩
  have HF := Lib.hid (BX.out.trans (hb.mono ZX.out))
  clear hb FAh
  go_wp2_with fail
  go_ret
  exact ⟨rfl, HF.out⟩
theorem lockNil_law (o : Int) (ho1 : -9223372036854775808 ≤ o) (ho2 : o ≤ 9223372036854775807) (l : Int) (hl1 : -9223372036854775808 ≤ l) (hl2 : l ≤ 9223372036854775807) (w : World) :
    Calls Try.prog 8 #[.int .i64 o, .int .i64 l] w fun e w' => e = .returned (.bool true) ∧ Below w.heap.size w w' := lockNil_any o ⟨ho1, ho2⟩ l ⟨hl1, hl2⟩ w
end Go.Proofs.Ytpfplniokjkcbaa
