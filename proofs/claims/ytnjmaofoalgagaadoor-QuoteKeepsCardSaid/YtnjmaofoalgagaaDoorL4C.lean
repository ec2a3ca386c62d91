/- The walk of the law QuoteInverse. -/
import Derived.Test.YtnjmaofoalgagaaDoorAlive4
import Derived.Test.YtnjmaofoalgagaaDoorScanFL
import Derived.Test.YtnjmaofoalgagaaDoorEqB
import Derived.Test.YtnjmaofoalgagaaDoorConcatB
import Derived.Test.YtnjmaofoalgagaaDoorInvMath
namespace Go.Proofs.YtnjmaofoalgagaaDoor
open Go.RowKit

theorem SPost.some_ {P : List UInt8} {m base : Nat} {e : Ending} {w' : World} (h : SPost (some (P, m)) base e w') :
    ∃ g c', e = .returned (.tuple #[.slice (some ⟨g, 0, none⟩) P.length c', .int .i64 (m : Int), .bool true]) ∧ w'.ownsRow base 5 1 (.slice (some ⟨g, 0, none⟩) P.length c') P.length (flatL encB P) := by
  rcases h with ⟨P', m', g, c', h1, h2, h3⟩ | ⟨h1, _⟩
  · simp only [Option.some.injEq, Prod.mk.injEq] at h1
    obtain ⟨rfl, rfl⟩ := h1
    exact ⟨g, c', h2, h3⟩
  · cases h1
theorem litL_len (b : List UInt8) (hb : b.length ≤ 1000) : (literalL b).length ≤ 1100 := by
  have := headL_len (n := b.length) (by omega)
  unfold literalL
  rw [List.length_append]
  omega
theorem quotedL_len (b : List UInt8) : (quotedL b).length ≤ 2 * b.length + 2 := by
  have := escL_len b
  unfold quotedL
  rw [List.length_cons, List.length_append, List.length_singleton]
  omega

set_option maxRecDepth 100000 in
set_option maxHeartbeats 4000000 in
theorem quoteInverse_main (A : Option Addr) (c : Nat) (l : List UInt8) (A2 : Option Addr) (c2 : Nat) (l2 : List UInt8) (A3 : Option Addr) (c3 : Nat) (l3 : List UInt8) (h1 : l.length ≤ 500) (h2 : l2.length ≤ 100) (h3 : l3.length ≤ 100)
    (w : World) (henv : Env w) (hA : ByAt w.heap.size w A c l) (hA2 : ByAt w.heap.size w A2 c2 l2) (hA3 : ByAt w.heap.size w A3 c3 l3) :
    Calls Tryd.prog 6 #[.slice A l.length c, .slice A2 l2.length c2, .slice A3 l3.length c3] w fun e w' => e = .returned (.bool true) ∧ Below w.heap.size w w' := by
  have HE := Lib.hid (fun w1 (hB : Below w.heap.size w w1) => henv.below hB)
  have AL := Lib.hid (fun w1 (hB : Below w.heap.size w w1) => alive4_any w1 (henv.below hB))
  have HA := Lib.hid hA
  have HA2 := Lib.hid hA2
  have HA3 := Lib.hid hA3
  have LT := Lib.hid (literal_any _ A c l (by omega) w henv hA)
  have hLl := litL_len l (by omega)
  have hQl := quotedL_len l
  have HSL := Lib.hid (scanL_inv l2 l l3 (by omega))
  have QT := fun w1 (hB : Below w.heap.size w w1) => quoted_any w.heap.size A c l (by omega) w1 (hA.below hB)
  have HSQ := Lib.hid (fun h => scanQ_inv l2 l l3 h)
  clear henv hA hA2 hA3
  generalize literalL l = L at *
  generalize quotedL l = q at *
  obtain ⟨X, hX⟩ : ∃ X, l2 ++ L ++ l3 = X := ⟨_, rfl⟩
  have hXl : X.length ≤ 1000000 := by rw [← hX, List.length_append, List.length_append]; omega
  have C3 := fun g A1 A2 A3 c1 c2 c3 w h0 h1' h2' hg a1 a2 a3 => concat3_any g A1 A2 A3 c1 c2 c3 l2 L l3 (by omega) (by omega) (by omega) w h0 h1' h2' hg a1 a2 a3
  rw [hX] at C3 HSL
  have C3 := Lib.hid C3
  clear hX
  obtain ⟨Y, hY⟩ : ∃ Y, l2 ++ q ++ l3 = Y := ⟨_, rfl⟩
  have hYl : Y.length ≤ 1000000 := by rw [← hY, List.length_append, List.length_append]; omega
  have D3 := fun g A1 A2 A3 c1 c2 c3 w h0 h1' h2' hg a1 a2 a3 => concat3_any g A1 A2 A3 c1 c2 c3 l2 q l3 (by omega) (by omega) (by omega) w h0 h1' h2' hg a1 a2 a3
  rw [hY] at D3 HSQ
  have D3 := Lib.hid D3
  clear hY
  have HC1 := Lib.hid (show ((l2.length + L.length : Nat) : Int) = (l2.length : Int) + (L.length : Int) by omega)
  have HC2 := Lib.hid (show ((l2.length + q.length : Nat) : Int) = (l2.length : Int) + (q.length : Int) by omega)
  go_enter Tryd.func6, Tryd.ntmps6
  go_wp2_with fail
  refine LT.out.mono ?_
  rintro e w1 ⟨AL1, cL1, rfl, hL, hb1⟩
  have HB1 := Lib.hid hb1
  have K0 := below_al w1 (.cells #[.slice A2 l2.length c2, .slice AL1 L.length cL1, .slice A3 l3.length c3] 22)
  have HB1a := Lib.hid (hb1.trans (K0.mono hb1.size))
  have C := Lib.hid (C3.out w1.heap.size A2 AL1 A3 c2 cL1 c3 (w1.alloc (.cells #[.slice A2 l2.length c2, .slice AL1 L.length cL1, .slice A3 l3.length c3] 22)) (by simp) (by simp) (by simp) (by simp) (HA2.out.below HB1a.out).here (hL.grow K0).here (HA3.out.below HB1a.out).here)
  clear hL hb1 LT C3 K0 HB1
  go_wp2_with fail
  refine C.out.mono ?_
  rintro e w2 ⟨AX, cX, rfl, hXb, hb2⟩
  have HB2 := Lib.hid (HB1a.out.trans (hb2.mono HB1a.out.size))
  have SL := scanLiteral_any _ cX AX X (l2.length : Int) (by omega) (by omega) hXl w2 (HE.out _ HB2.out) hXb
  rw [HSL.out] at SL
  have SL := Lib.hid SL
  clear hXb hb2 C HSL HB1a
  go_wp2_with fail
  refine SL.out.mono ?_
  rintro e w3 ⟨hs, hb3⟩
  obtain ⟨g, cg, rfl, ho⟩ := hs.some_
  rw [HC1.out]
  have HB3 := Lib.hid (HB2.out.trans (hb3.mono HB2.out.size))
  have E1 := equalB_any _ _ _ A cg c _ _ l l rfl rfl (by omega) (by omega) w3 (ByAt.of_own ho) (HA.out.below HB3.out)
  rw [decide_eq_true rfl] at E1
  have E1 := Lib.hid E1
  clear hs hb3 ho SL HB2
  go_wp2_with fail
  refine E1.out.mono ?_
  rintro e w4 ⟨rfl, hb4⟩
  have HB4 := Lib.hid (HB3.out.trans (hb4.mono HB3.out.size))
  have QT1 := QT w4 HB4.out
  clear hb4 E1 HB3 QT
  cases ha : allT l with
  | false =>
    rw [ha] at QT1
    have QT1 := Lib.hid QT1
    clear ha HSQ D3
    go_wp2_with fail
    refine QT1.out.mono ?_
    rintro e w5 ⟨rfl, hb5⟩
    have HB5 := Lib.hid (HB4.out.trans (hb5.mono HB4.out.size))
    have AL := Lib.hid (AL.out w5 HB5.out)
    clear hb5 QT1 HB4
    go_wp2_with fail
    refine AL.out.mono ?_
    rintro e w6 ⟨rfl, hb6⟩
    have HB6 := Lib.hid (HB5.out.trans (hb6.mono HB5.out.size))
    clear hb6 AL HB5
    go_wp2_with fail
    go_ret
    exact ⟨rfl, HB6.out⟩
  | true =>
    rw [ha, if_pos rfl] at QT1
    have QT1 := Lib.hid QT1
    have HSQ := Lib.hid (HSQ.out ha)
    clear ha
    go_wp2_with fail
    refine QT1.out.mono ?_
    rintro e w5 ⟨rfl, hb5⟩
    have HB5 := Lib.hid (HB4.out.trans (hb5.mono HB4.out.size))
    clear hb5 QT1 HB4
    obtain ⟨cap, w6, hcs, hb6, hP, hcap, hw6, _⟩ := convB w5 ⟨q.toArray⟩ q.length (by show q.toArray.size = _; simp)
    have hPq : ByAt w6.heap.size w6 (some ⟨w5.heap.size, 0, none⟩) cap q := by simpa using hP
    have HB6 := Lib.hid (HB5.out.trans (hb6.mono HB5.out.size))
    have K0 := below_al w6 (.cells #[.slice A2 l2.length c2, .slice (some ⟨w5.heap.size, 0, none⟩) q.length cap, .slice A3 l3.length c3] 22)
    have HB6a := Lib.hid (HB6.out.trans (K0.mono HB6.out.size))
    have C := Lib.hid (D3.out w6.heap.size A2 (some ⟨w5.heap.size, 0, none⟩) A3 c2 cap c3 (w6.alloc (.cells #[.slice A2 l2.length c2, .slice (some ⟨w5.heap.size, 0, none⟩) q.length cap, .slice A3 l3.length c3] 22)) (by simp) (by simp) (by simp) (by simp) (HA2.out.below HB6a.out).here (hPq.grow K0).here (HA3.out.below HB6a.out).here)
    clear hP hPq hw6 hb6 K0 D3 HB6
    go_wp2_with fail
    refine C.out.mono ?_
    rintro e w7 ⟨AY, cY, rfl, hYb, hb7⟩
    have HB7 := Lib.hid (HB6a.out.trans (hb7.mono HB6a.out.size))
    have SQ := scanQuoted_any _ cY AY Y (l2.length : Int) (by omega) (by omega) hYl w7 hYb
    rw [HSQ.out] at SQ
    have SQ := Lib.hid SQ
    clear hYb hb7 C HSQ HB6a hcs
    go_wp2_with fail
    refine SQ.out.mono ?_
    rintro e w8 ⟨hs, hb8⟩
    obtain ⟨g8, cg8, rfl, ho⟩ := hs.some_
    rw [HC2.out]
    have HB8 := Lib.hid (HB7.out.trans (hb8.mono HB7.out.size))
    have HO8 := Lib.hid (ByAt.of_own ho)
    have AL := Lib.hid (AL.out w8 HB8.out)
    clear hs hb8 ho SQ HB7
    go_wp2_with fail
    refine AL.out.mono ?_
    rintro e w9 ⟨rfl, hb9⟩
    have HB9 := Lib.hid (HB8.out.trans (hb9.mono HB8.out.size))
    have E2 := equalB_any _ _ _ A cg8 c _ _ l l rfl rfl (by omega) (by omega) w9 (HO8.out.grow hb9) (HA.out.below HB9.out)
    rw [decide_eq_true rfl] at E2
    have E2 := Lib.hid E2
    clear hb9 AL HB8 HO8
    go_wp2_with fail
    refine E2.out.mono ?_
    rintro e w10 ⟨rfl, hb10⟩
    have HB10 := Lib.hid (HB9.out.trans (hb10.mono HB9.out.size))
    clear hb10 E2 HB9
    go_wp2_with fail
    go_ret
    exact ⟨rfl, HB10.out⟩
end Go.Proofs.YtnjmaofoalgagaaDoor
