/- The walks of the laws QuoteForms, QuoteAnnounces. -/
import Derived.Test.YtnjmaofoalgagaaDoorAlive4
import Derived.Test.YtnjmaofoalgagaaDoorRef04A
import Derived.Test.YtnjmaofoalgagaaDoorRef04B
import Derived.Test.YtnjmaofoalgagaaDoorEqB
import Derived.Test.YtnjmaofoalgagaaDoorKeeps
namespace Go.Proofs.YtnjmaofoalgagaaDoor
open Go.RowKit

set_option maxRecDepth 100000 in
set_option maxHeartbeats 2000000 in
theorem quoteAnnounces_any (A : Option Addr) (c : Nat) (l : List UInt8) (hl : l.length ≤ maxLen) (w : World) (henv : Env w) (hA : ByAt w.heap.size w A c l) :
    Calls Tryd.prog 4 #[.slice A l.length c] w fun e w' => e = .returned (.bool true) ∧ Below w.heap.size w w' := by
  have AL := Lib.hid (fun w1 (hB : Below w.heap.size w w1) => alive4_any w1 (henv.below hB))
  unfold maxLen at hl
  by_cases hbig : l.length ≤ 1000
  · have P := Lib.hid (announced_any _ c A l (by omega) w henv hA)
    have R := Lib.hid (fun w1 (hB : Below w.heap.size w w1) => refAnnounced_any w.heap.size c l.length A l rfl (by omega) w1 (hA.below hB))
    clear henv hA
    go_enter Tryd.func4, Tryd.ntmps4
    go_wp2_with fail
    refine P.out.mono ?_
    rintro e w1 ⟨⟨o, ho, rfl⟩, hB⟩
    have R := Lib.hid (R.out w1 hB)
    have HB := Lib.hid hB
    have HO := Lib.hid ho
    clear P hB ho
    go_wp2_with fail
    refine R.out.mono ?_
    rintro e w2 ⟨⟨o2, ho2, rfl⟩, rfl⟩
    obtain rfl := isAnn_eq HO.out ho2
    have AL := Lib.hid (AL.out w1 HB.out)
    clear ho2 HO R
    cases o with
    | none =>
      go_wp2_with fail
      refine AL.out.mono ?_
      rintro e w3 ⟨rfl, h3⟩
      have HB3 := Lib.hid (HB.out.trans (h3.mono HB.out.size))
      clear h3
      go_wp2_with fail
      go_ret
      exact ⟨rfl, HB3.out⟩
    | some n =>
      go_wp2_with fail
      refine AL.out.mono ?_
      rintro e w3 ⟨rfl, h3⟩
      have HB3 := Lib.hid (HB.out.trans (h3.mono HB.out.size))
      clear h3
      go_wp2_with fail
      go_ret
      exact ⟨rfl, HB3.out⟩
  · have hb1 : (1000 : Int) < l.length := by omega
    have hb2 : (l.length : Int) ≤ 9223372036854775807 := by omega
    have AL := Lib.hid (AL.out w (Below.refl _ _))
    clear hbig henv hA
    go_enter Tryd.func4, Tryd.ntmps4
    go_wp2_with fail
    refine AL.out.mono ?_
    rintro e w1 ⟨rfl, hb⟩
    go_wp2_with fail
    go_ret
    exact ⟨rfl, hb⟩

set_option maxRecDepth 100000 in
set_option maxHeartbeats 4000000 in
theorem quoteForms_any (A : Option Addr) (c : Nat) (l : List UInt8) (hl : l.length ≤ maxLen) (w : World) (henv : Env w) (hA : ByAt w.heap.size w A c l) :
    Calls Tryd.prog 3 #[.slice A l.length c] w fun e w' => e = .returned (.bool true) ∧ Below w.heap.size w w' := by
  obtain ⟨i0, hi, hz0, hz1, hz2⟩ := info_parts infoByte
  have HE := Lib.hid (fun w1 (hB : Below w.heap.size w w1) => henv.below hB)
  have AL := Lib.hid (fun w1 (hB : Below w.heap.size w w1) => alive4_any w1 (henv.below hB))
  unfold maxLen at hl
  by_cases hbig : l.length ≤ 1000
  · have HA := Lib.hid hA
    have HOE := Lib.hid (own_empty (sz := 1) (heap_alloc_new w (.cells #[] 5)) (Nat.le_refl _))
    have H63 := Lib.hid (show 0 + l.length ≤ maxLen by unfold maxLen; omega)
    have HBY := Lib.hid (show (0 + l.length) * 1 ≤ 140737488355328 by omega)
    have HSZ := Lib.hid (below_al w (.cells #[] 5)).size
    have Q := Lib.hid (fun B A c w1 hA => quoted_any B A c l (by omega) w1 hA)
    have RQ := Lib.hid (fun B A c w1 hA => refQuoted_any B A c l (by omega) w1 hA)
    have LT := Lib.hid (fun B A c w1 he hA => literal_any B A c l (by omega) w1 he hA)
    have RL := Lib.hid (fun B A c w1 hA => refLiteral_any B A c l (by omega) w1 hA)
    have BT := Lib.hid (fun B A c w1 he hA => best_any B A c l (by omega) w1 he hA)
    have RB := Lib.hid (fun B A c w1 hA => refBest_any B A c l (by omega) w1 hA)
    have hll : (literalL l).length ≤ 2000 := by
      have := headL_len (n := l.length) (by omega)
      unfold literalL
      rw [List.length_append]
      omega
    have hbl : (bestL l).length ≤ 3000 := by
      unfold bestL
      split
      · have := escL_len l
        unfold quotedL
        rw [List.length_cons, List.length_append, List.length_singleton]
        omega
      · omega
    have HL1 := Lib.hid (show (literalL l).length ≤ 1000000000 by omega)
    have HL2 := Lib.hid (show (bestL l).length ≤ 1000000000 by omega)
    clear henv hA hll hbl
    generalize literalL l = L1 at *
    generalize bestL l = L2 at *
    generalize (if allT l = true then quotedL l else []) = q at *
    generalize allT l = t at *
    go_enter Tryd.func3, Tryd.ntmps3
    go_wp2_with (at_builtin; refine wpList_append_sl _ rfl _ _ 22 rfl w.heap.size 5 i0 _ 1 Tryd.underlying22 hi hz0 hz1 hz2 rfl (by decide) _ 0 [] rfl HOE.out A l c rfl encB_len (HA.out.grow (below_al w _)).sl (one_flatB l) H63.out HBY.out HSZ.out ?_; intro v2 w2 hown2 hg2)
    rw [Nat.zero_add, List.nil_append] at hown2
    obtain ⟨A2, c2, rfl⟩ := own_any hown2
    have HO := Lib.hid (ByAt.of_own hown2)
    have HB := Lib.hid ((below_al w (.cells #[] 5)).grown hg2 HSZ.out (fun kk hkk => (HOE.out.lt kk hkk).1))
    have Q1 := Lib.hid (Q.out _ A2 c2 w2 HO.out)
    clear hown2 hg2 HOE HSZ Q
    go_wp2_with fail
    refine Q1.out.mono ?_
    rintro e w3 ⟨rfl, h3⟩
    have HB3 := Lib.hid (HB.out.trans (h3.mono HB.out.size))
    have HO3 := Lib.hid (HO.out.grow h3)
    have R1 := Lib.hid (RQ.out _ A c w3 (HA.out.below HB3.out))
    clear h3 Q1 HO HB RQ
    go_wp2_with fail
    refine R1.out.mono ?_
    rintro e w4 ⟨rfl, rfl⟩
    have AL := Lib.hid (AL.out w3 HB3.out)
    clear R1
    go_wp2_with fail
    refine AL.out.mono ?_
    rintro e w5 ⟨rfl, h5⟩
    have HB5 := Lib.hid (HB3.out.trans (h5.mono HB3.out.size))
    have HO5 := Lib.hid (HO3.out.grow h5)
    have LT := Lib.hid (LT.out _ A2 c2 w5 (HE.out w5 HB5.out) HO5.out)
    clear h5 AL HB3 HO3
    cases t
    all_goals
      go_wp2_with fail
      refine LT.out.mono ?_
      rintro e w6 ⟨A6, c6, rfl, hR6, h6⟩
      have HB6 := Lib.hid (HB5.out.trans (h6.mono HB5.out.size))
      have HO6 := Lib.hid (HO5.out.grow h6)
      have RL := Lib.hid (RL.out _ A c w6 (HA.out.below HB6.out))
      have HR6 := Lib.hid hR6
      clear h6 hR6 LT HB5 HO5
      go_wp2_with fail
      refine RL.out.mono ?_
      rintro e w7 ⟨A7, c7, rfl, hR7, h7⟩
      have HB7 := Lib.hid (HB6.out.trans (h7.mono HB6.out.size))
      have HO7 := Lib.hid (HO6.out.grow h7)
      have E1 := equalB_any _ _ A6 A7 c6 c7 _ _ L1 L1 rfl rfl HL1.out HL1.out w7 (HR6.out.grow h7) hR7
      rw [decide_eq_true rfl] at E1
      have E1 := Lib.hid E1
      clear h7 hR7 RL HB6 HO6 HR6
      go_wp2_with fail
      refine E1.out.mono ?_
      rintro e w8 ⟨rfl, h8⟩
      have HB8 := Lib.hid (HB7.out.trans (h8.mono HB7.out.size))
      have HO8 := Lib.hid (HO7.out.grow h8)
      have BT := Lib.hid (BT.out _ A2 c2 w8 (HE.out w8 HB8.out) HO8.out)
      clear h8 E1 HB7 HO7
      go_wp2_with fail
      refine BT.out.mono ?_
      rintro e w9 ⟨A9, c9, rfl, hR9, h9⟩
      have HB9 := Lib.hid (HB8.out.trans (h9.mono HB8.out.size))
      have HO9 := Lib.hid (HO8.out.grow h9)
      have RB := Lib.hid (RB.out _ A c w9 (HA.out.below HB9.out))
      have HR9 := Lib.hid hR9
      clear h9 hR9 BT HB8 HO8
      go_wp2_with fail
      refine RB.out.mono ?_
      rintro e w10 ⟨A10, c10, rfl, hR10, h10⟩
      have HB10 := Lib.hid (HB9.out.trans (h10.mono HB9.out.size))
      have HO10 := Lib.hid (HO9.out.grow h10)
      have E2 := equalB_any _ _ A9 A10 c9 c10 _ _ L2 L2 rfl rfl HL2.out HL2.out w10 (HR9.out.grow h10) hR10
      rw [decide_eq_true rfl] at E2
      have E2 := Lib.hid E2
      clear h10 hR10 RB HB9 HO9 HR9
      go_wp2_with fail
      refine E2.out.mono ?_
      rintro e w11 ⟨rfl, h11⟩
      have HB11 := Lib.hid (HB10.out.trans (h11.mono HB10.out.size))
      have E3 := equalB_any _ _ A2 A c2 c _ _ l l rfl rfl (by omega) (by omega) w11 (HO10.out.grow h11) (HA.out.below HB11.out)
      rw [decide_eq_true rfl] at E3
      have E3 := Lib.hid E3
      clear h11 E2 HB10 HO10
      go_wp2_with fail
      refine E3.out.mono ?_
      rintro e w12 ⟨rfl, h12⟩
      have HB12 := Lib.hid (HB11.out.trans (h12.mono HB11.out.size))
      clear h12 E3 HB11
      go_wp2_with fail
      go_ret
      exact ⟨rfl, HB12.out⟩
  · have hb1 : (1000 : Int) < l.length := by omega
    have hb2 : (l.length : Int) ≤ 9223372036854775807 := by omega
    have AL := Lib.hid (AL.out w (Below.refl _ _))
    clear hbig henv hA
    go_enter Tryd.func3, Tryd.ntmps3
    go_wp2_with fail
    refine AL.out.mono ?_
    rintro e w1 ⟨rfl, hb⟩
    go_wp2_with fail
    go_ret
    exact ⟨rfl, hb⟩
end Go.Proofs.YtnjmaofoalgagaaDoor
