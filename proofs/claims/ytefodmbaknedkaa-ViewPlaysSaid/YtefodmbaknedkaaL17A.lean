/- The law ViewParts. -/
import Derived.Test.YtefodmbaknedkaaL17F
import Derived.Test.YtefodmbaknedkaaVb
import Derived.Test.YtefodmbaknedkaaSlEqW
namespace Go.Proofs.Ytefodmbaknedkaa
open Go.RowKit

set_option maxRecDepth 100000 in
set_option maxHeartbeats 4000000 in
theorem parts_main (A : Option Addr) (c : Nat) (l : List Nat) (hl : l.length ≤ 60) (hb : ∀ n ∈ l, n ≤ 4294967295) (A2 : Option Addr) (c2 : Nat) (es : List EvI) (hec : es.length ≤ c2) (hes : es.length ≤ 60) (hok : ∀ e ∈ es, evOk e) (n : Nat) (hn : n ≤ 255) (w : World) (hS : SlAt encU 1 w A l) (hS2 : SlAt encEv 3 w A2 es) :
    Calls Try.prog 7 #[.slice A l.length c, .slice A2 es.length c2, .int .u8 (n : Int)] w fun e w' => e = .returned (.bool true) ∧ Below w.heap.size w w' := by
  obtain ⟨O, hO, hol⟩ := isSet_ex l
  have hl1 : ¬ (60 : Int) < (l.length : Int) := by omega
  have hl2 : ¬ (60 : Int) < (es.length : Int) := by omega
  have AL := Lib.hid (fun W => alive17_any W)
  have NV := Lib.hid (fun W (hW : Below w.heap.size w W) => vnew_any A c l O (by omega) hb hO W (hS.below hW))
  have NR := Lib.hid (fun W (hW : Below w.heap.size w W) => rnew_any (c := c) O (by omega) hb hO (hS.below hW))
  have HOL := Lib.hid (Nat.le_trans hol hl)
  have HS2 := Lib.hid hS2
  have HOK := Lib.hid hok
  have HLW := Lib.hid (arg_low17 hS2)
  obtain ⟨m, hm⟩ : ∃ m, m = n % (es.length + 1) := ⟨_, rfl⟩
  have hml : m ≤ es.length := by have := Nat.mod_lt n (show 0 < es.length + 1 by omega); omega
  have hw1 : IntKind.i64.wrap (n : Int) = (n : Int) := IntWalk.i64_in _ (by omega)
  have hmi : (n : Int) % ((es.length : Int) + 1) = (m : Int) := by rw [hm]; push_cast; rfl
  have HTK := Lib.hid (show (es.take m).length = m by rw [List.length_take]; omega)
  have HDR := Lib.hid (show (es.drop m).length = es.length - m by rw [List.length_drop])
  have e1 := fun W => sliceV_h A2 es.length c2 m (by omega) W
  have e2 := fun W => sliceV_l A2 es.length c2 m hml W
  have e3 := sliceAtV
  have E4 := Lib.hid (show ((apV (apV O false (es.take m)).1 false (es.drop m)).1 = (apV O false es).1) by rw [apV_view, apV_view, apV_view, ← List.foldl_append, List.take_append_drop])
  have HEC := Lib.hid hec
  clear hS hO hb hol hS2 hok hec hm
  go_enter Try.func7, Try.ntmps7
  go_wp2_with fail
  refine (NV.out _ (Below.refl _ _)).mono ?_
  rintro e w1 ⟨g, S, rfl, t1, s1, hb1⟩
  have Q1 : Hid (OX w.heap.size (VT g O) [] w w1) := Lib.hid (OX.start rfl t1 s1 hb1)
  have HGO := Lib.hid t1.good
  clear t1 s1 hb1
  go_wp2_with fail
  refine (NV.out _ Q1.out.be).mono ?_
  rintro e w2 ⟨g2, S2, rfl, t2, s2, hb2⟩
  have q2 := Q1.out.two t2 s2 hb2
  have hlo := HOL.out
  have C2 := Lib.hid (q2.vapply2 A2 c2 es HEC.out (by omega) (by omega) HOK.out (HS2.out.below q2.be) HLW.out)
  have HLE := Lib.hid (show (apV O false es).1.length ≤ 200 by rw [apV_view]; have := foldV_len es O; omega)
  have HLT := Lib.hid (show (apV O false (es.take m)).1.length ≤ 200 by rw [apV_view]; have := foldV_len (es.take m) O; have := HTK.out; omega)
  clear Q1 t2 s2 hb2 NV q2
  go_wp2_with fail
  refine C2.out.mono ?_
  rintro e w3 ⟨A4, n4, c4, rfl, q3⟩
  have C3 := q3.swap.vapply2 A2 c2 (es.take m) (by rw [HTK.out]; have := HEC.out; omega) (by rw [HTK.out]; omega) (by omega) (fun e h => HOK.out e (List.mem_of_mem_take h)) ((HS2.out.below q3.be).cutTake m) (HLW.out.imp (fun h => by rw [h]; simp) id)
  rw [HTK.out] at C3
  have C3 := Lib.hid C3
  clear C2 q3
  go_wp2_with fail
  refine C3.out.mono ?_
  rintro e w4 ⟨A5, n5, c5, rfl, q4⟩
  have C4 := q4.vapply2 (offG 3 A2 c2 m) (c2 - m) (es.drop m) (by rw [HDR.out]; have := HEC.out; omega) (by rw [HDR.out]; omega) (by have := HLT.out; omega) (fun e h => HOK.out e (List.mem_of_mem_drop h)) ((HS2.out.below q4.be).cutDrop HEC.out) (HLW.out.imp (fun h => by rw [h]; simp) fun h => offG_blk (P := fun k => k < w.heap.size) h)
  rw [HDR.out, E4.out] at C4
  have C4 := Lib.hid C4
  clear C3 q4 E4 HTK HDR HLT
  go_wp2_with fail
  refine C4.out.mono ?_
  rintro e w5 ⟨A6, n6, c6, rfl, q5⟩
  have N5 := Lib.hid (NR.out _ q5.be)
  have Q5 := Lib.hid q5.swap
  clear C4 q5 NR
  go_wp2_with fail
  refine N5.out.mono ?_
  rintro e w6 ⟨v, rfl, ho6, hb6⟩
  obtain ⟨A7, c7, rfl⟩ := own_any ho6
  have q6 := Q5.out.bel2 hb6
  have R6 := Lib.hid (rapply17_any A7 c7 O HGO.out (by omega) (SlAt.of_own encU_len ho6) A2 c2 es (by omega) HOK.out (HS2.out.below q6.be))
  have Q6 := Lib.hid q6
  generalize (apV O false es).1 = V at *
  generalize (apV O false es).2 = R at *
  clear N5 ho6 hb6 q6 Q5
  go_wp2_with fail
  refine R6.out.mono ?_
  rintro e w7 ⟨A8, A9, c8, c9, rfl, s7, -, -, hb7⟩
  have Q7 := Lib.hid (Q6.out.bel2 hb7)
  have S7 := Lib.hid s7
  clear s7 hb7 Q6 R6
  go_wp2_with fail
  refine (AL.out _).mono ?_
  rintro e w8 ⟨rfl, hb8⟩
  have q8 := Q7.out.bel2 hb8
  have hvl := HLE.out
  have C8 := Lib.hid (q8.vuids2 (by omega))
  have S8 := Lib.hid (S7.out.below hb8)
  clear q8 hb8 S7 Q7 AL
  go_wp2_with fail
  refine C8.out.mono ?_
  rintro e w9 ⟨A10, c10, rfl, s9, hb9, q9⟩
  have E9 := equalU_any A10 A8 c10 c8 V V (by omega) (by omega) _ s9 (S8.out.below hb9)
  rw [decide_eq_true rfl] at E9
  have E9 := Lib.hid E9
  have S9 := Lib.hid (S8.out.below hb9)
  have Q9 := Lib.hid q9
  clear s9 hb9 q9 S8 C8
  go_wp2_with fail
  refine E9.out.mono ?_
  rintro e w10 ⟨rfl, hb10⟩
  have C10 := Lib.hid ((Q9.out.bel2 hb10).swap.vuids2 (by omega))
  have S10 := Lib.hid (S9.out.below hb10)
  clear hb10 E9 S9 Q9
  go_wp2_with fail
  refine C10.out.mono ?_
  rintro e w11 ⟨A11, c11, rfl, s11, hb11, q11⟩
  have E11 := equalU_any A11 A8 c11 c8 V V (by omega) (by omega) _ s11 (S10.out.below hb11)
  rw [decide_eq_true rfl] at E11
  have E11 := Lib.hid E11
  have Q11 := Lib.hid q11
  clear s11 hb11 q11 S10 C10
  go_wp2_with fail
  refine E11.out.mono ?_
  rintro e w12 ⟨rfl, hb12⟩
  have HB := Lib.hid (Q11.out.bel2 hb12).be
  clear hb12 E11 Q11
  go_wp2_with fail
  go_ret
  exact ⟨rfl, HB.out⟩
theorem viewParts_law (A : Option Addr) (c : Nat) (l : List Nat) (hlm : l.length ≤ maxLen) (hb : ∀ n ∈ l, n ≤ 4294967295) (A2 : Option Addr) (c2 : Nat) (es : List EvI) (hec : es.length ≤ c2) (hem : es.length ≤ maxLen) (hok : ∀ e ∈ es, evOk e) (n : Nat) (hn : n ≤ 255) (w : World) (hS : SlAt encU 1 w A l) (hS2 : SlAt encEv 3 w A2 es) :
    Calls Try.prog 7 #[.slice A l.length c, .slice A2 es.length c2, .int .u8 (n : Int)] w fun e w' => e = .returned (.bool true) ∧ Below w.heap.size w w' := by
  unfold maxLen at hlm hem
  have AL := Lib.hid (alive17_any w)
  by_cases hl : l.length ≤ 60
  · by_cases he : es.length ≤ 60
    · exact parts_main A c l hl hb A2 c2 es hec he hok n hn w hS hS2
    · have hl1 : ¬ (60 : Int) < (l.length : Int) := by omega
      have hl2 : (60 : Int) < (es.length : Int) := by omega
      clear hl he hS hS2 hb hok hec
      generalize l.length = n1 at *
      generalize es.length = n2 at *
      go_enter Try.func7, Try.ntmps7
      go_wp2_with fail
      refine AL.out.mono ?_
      rintro e w1 ⟨rfl, hb⟩
      go_wp2_with fail
      go_ret
      exact ⟨rfl, hb⟩
  · have hl1 : (60 : Int) < (l.length : Int) := by omega
    clear hl hS hS2 hb hok hec
    generalize l.length = n1 at *
    generalize es.length = n2 at *
    go_enter Try.func7, Try.ntmps7
    go_wp2_with fail
    refine AL.out.mono ?_
    rintro e w1 ⟨rfl, hb⟩
    go_wp2_with fail
    go_ret
    exact ⟨rfl, hb⟩
end Go.Proofs.Ytefodmbaknedkaa
