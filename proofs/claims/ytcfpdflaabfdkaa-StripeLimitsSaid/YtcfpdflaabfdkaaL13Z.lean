/- The laws of layer 13: the chapter's example. -/
import Derived.Test.YtcfpdflaabfdkaaTbZ
import Derived.Test.YtcfpdflaabfdkaaOps13
import Derived.Test.YtcfpdflaabfdkaaGe
namespace Go.Proofs.Ytcfpdflaabfdkaa
open Go.RowKit

theorem lit_rowZ (w : World) (l : List Nat) (hl : l.length ≤ 1000) : SlAt encZ 1 (w.alloc (.cells (flatL encZ l).toArray 3)) (some ⟨w.heap.size, 0, none⟩) l := by
  have h := World.ownsRow_lit (base := w.heap.size) (e := 3) (size := 1) w (flatL encZ l).toArray l.length (Nat.le_refl _) (by unfold maxLen; omega) (by rw [List.size_toArray, flatL_length encZ_len])
  exact SlAt.of_own encZ_len h
theorem lit_rowU (w : World) (l : List Nat) (hl : l.length ≤ 1000) : SlAt encU 1 (w.alloc (.cells (flatL encU l).toArray 29)) (some ⟨w.heap.size, 0, none⟩) l := by
  have h := World.ownsRow_lit (base := w.heap.size) (e := 29) (size := 1) w (flatL encU l).toArray l.length (Nat.le_refl _) (by unfold maxLen; omega) (by rw [List.size_toArray, flatL_length encU_len])
  exact SlAt.of_own encU_len h
def m7 : MI := ⟨7, 8, none, 0, []⟩
theorem put7 : putM [] m7 = ([m7], 0) := by simp [putM, m7, fdI]
theorem sz7 : szM [m7] 4 = [0, 0, 0, 1] := by decide
theorem wi7 : wiM [m7] 8 = [7] := by decide
theorem set7 : IsSet [7] [7] := ⟨List.pairwise_singleton _ _, fun n => by simp; omega⟩

set_option maxRecDepth 100000 in
set_option maxHeartbeats 2000000 in
theorem alive13_any (w : World) : Calls Try.prog 10 #[] w fun e w' => e = .returned (.bool true) ∧ Below w.heap.size w w' := by
  have N1 := Lib.hid (tnew_any 4 (by omega) w)
  go_enter Try.func10, Try.ntmps10
  go_wp2_with fail
  refine N1.out.mono ?_
  rintro e w1 ⟨g, S, rfl, t1, s1, hb1⟩
  have O1 := Lib.hid (tof_any 7 (by omega) t1)
  have T1 := Lib.hid t1
  have S1 := Lib.hid s1
  have B1 := Lib.hid hb1
  clear t1 s1 hb1 N1
  go_wp2_with fail
  refine O1.out.mono ?_
  rintro e w2 ⟨rfl, hb2⟩
  have T2 := Lib.hid (T1.out.kept (KeptO.of_below (S := fun _ => False) hb2) fun _ _ e => e)
  have B2 := Lib.hid (below_next B1.out hb2)
  have P2 := Lib.hid (tput_any m7 (by decide) (by decide) (ByAt.nil _ _ _ _) (.inl rfl) T2.out (by simp))
  rw [put7] at P2
  unfold m7 msV at P2
  clear hb2 T1 B1 O1
  go_wp2_with fail
  refine P2.out.mono ?_
  rintro e w3 ⟨S3, rfl, t3, m3, k3⟩
  have T3 := Lib.hid t3
  have B3 := Lib.hid (B2.out.trans (k3.below S1.out B2.out.size))
  have S3' := Lib.hid (show ∀ k, S3 k → w.heap.size ≤ k from fun k hk => by
    rcases m3.2 k hk with e | e
    · exact S1.out k e
    · exact Nat.le_trans B2.out.size e)
  have Z3 := Lib.hid (tsizes_any T3.out (by simp))
  rw [show szM [(⟨7, 8, none, 0, []⟩ : MI)] 4 = [0, 0, 0, 1] from sz7] at Z3
  clear t3 m3 k3 T2 P2 B2 S1
  go_wp2_with fail
  refine Z3.out.mono ?_
  rintro e w4 ⟨v4, S4, rfl, ho4, t4, m4, k4⟩
  obtain ⟨A4, c4, rfl⟩ := own_any ho4
  have T4 := Lib.hid t4
  have B4 := Lib.hid (B3.out.trans (k4.below S3'.out B3.out.size))
  have S4' := Lib.hid (show ∀ k, S4 k → w.heap.size ≤ k from fun k hk => by
    rcases m4.2 k hk with e | e
    · exact S3'.out k e
    · exact Nat.le_trans B3.out.size e)
  have EQ := Lib.hid (equalI13_any A4 (some ⟨w4.heap.size, 0, none⟩) c4 4 [0, 0, 0, 1] [0, 0, 0, 1] (by simp) (by simp) _ ((SlAt.of_own encZ_len ho4).below (below_al w4 (.cells (flatL encZ [0, 0, 0, 1]).toArray 3))) (lit_rowZ w4 [0, 0, 0, 1] (by simp)))
  rw [decide_eq_true rfl] at EQ
  have A4' := Lib.hid (below_al w4 (.cells (flatL encZ [0, 0, 0, 1]).toArray 3))
  clear ho4 t4 m4 k4 T3 B3 S3' Z3
  go_wp2_with fail
  refine EQ.out.mono ?_
  rintro e w5 ⟨rfl, hb5⟩
  have HB5 := Lib.hid (below_next A4'.out hb5)
  have T5 := Lib.hid (T4.out.kept (KeptO.of_below (S := fun _ => False) HB5.out) fun _ _ e => e)
  have B5 := Lib.hid (below_next B4.out HB5.out)
  have W5 := Lib.hid (twith_any 8 (by omega) T5.out (by simp))
  rw [show wiM [(⟨7, 8, none, 0, []⟩ : MI)] 8 = [7] from wi7] at W5
  clear hb5 EQ HB5 A4' T4 B4
  go_wp2_with fail
  refine W5.out.mono ?_
  rintro e w6 ⟨O, v6, S6, rfl, hO, hOl, ho6, t6, m6, k6⟩
  obtain rfl : O = [7] := hO.det set7
  obtain ⟨A6, c6, rfl⟩ := own_any ho6
  have B6 := Lib.hid (B5.out.trans (k6.below S4'.out B5.out.size))
  have EQ := Lib.hid (equalU13_any A6 (some ⟨w6.heap.size, 0, none⟩) c6 1 [7] [7] (by simp) (by simp) _ ((SlAt.of_own encU_len ho6).below (below_al w6 (.cells (flatL encU [7]).toArray 29))) (lit_rowU w6 [7] (by simp)))
  rw [decide_eq_true rfl] at EQ
  have A6' := Lib.hid (below_al w6 (.cells (flatL encU [7]).toArray 29))
  clear ho6 t6 m6 k6 hO hOl W5 T5 B5
  go_wp2_with fail
  refine EQ.out.mono ?_
  rintro e w7 ⟨rfl, hb7⟩
  have HB7 := below_next (below_next B6.out A6'.out) hb7
  clear hb7 EQ
  go_wp2_with fail
  go_ret
  exact ⟨rfl, HB7⟩
end Go.Proofs.Ytcfpdflaabfdkaa
