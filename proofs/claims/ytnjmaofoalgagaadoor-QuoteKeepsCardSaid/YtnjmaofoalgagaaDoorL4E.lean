/- The walk of the law QuoteKeeps. -/
import Derived.Test.YtnjmaofoalgagaaDoorL4C
import Derived.Test.YtnjmaofoalgagaaDoorRef04A
namespace Go.Proofs.YtnjmaofoalgagaaDoor
open Go.RowKit

/-- One byte of a row of the call's own, one up. -/
theorem own_inc {w : World} {base g n cg k : Nat} {X : List UInt8} (h : w.ownsRow base 5 1 (.slice (some ⟨g, 0, none⟩) n cg) n (flatL encB X)) (hX : X.length = n) (hk : k < n) :
    w.cell? ⟨g, k, none⟩ = some (.int .u8 ((X[k]'(by omega)).toNat : Int)) ∧ w.frozen? ⟨g, k, none⟩ = false ∧ base ≤ g ∧
    (w.setCell ⟨g, k, none⟩ (.int .u8 ((X[k]'(by omega) + 1).toNat : Int))).ownsRow base 5 1 (.slice (some ⟨g, 0, none⟩) n cg) n (flatL encB (X.set k (X[k]'(by omega) + 1))) := by
  have e : flatL encB X = X.map fun c => Value.int .u8 (c.toNat : Int) := flatB X
  refine ⟨?_, h.frozenAt k, (h.lt g rfl).1, ?_⟩
  · rw [h.cellAt k (by omega), e, List.getElem?_map, List.getElem?_eq_getElem (by omega)]
    rfl
  · have := (h.stored k (.int .u8 ((X[k]'(by omega) + 1).toNat : Int))).1
    have e2 : flatL encB (X.set k (X[k]'(by omega) + 1)) = (flatL encB X).set k (.int .u8 ((X[k]'(by omega) + 1).toNat : Int)) := by rw [flatB, flatB, List.map_set]
    rw [e2]
    exact this
theorem inc_byte (x : UInt8) : IntKind.u8.wrap ((x.toNat : Int) + 1) = ((x + 1).toNat : Int) := by
  have h := x.toNat_lt
  have e : (x + 1).toNat = (x.toNat + 1) % 256 := by rw [UInt8.toNat_add]; rfl
  rw [e]
  simp [IntKind.wrap, IntKind.bits, IntKind.signed]

set_option maxRecDepth 100000 in
set_option maxHeartbeats 8000000 in
theorem quoteKeeps_any (A : Option Addr) (c : Nat) (l : List UInt8) (hl : l.length ≤ maxLen) (w : World) (henv : Env w) (hA : ByAt w.heap.size w A c l) :
    Calls Tryd.prog 8 #[.slice A l.length c] w fun e w' => e = .returned (.bool true) ∧ Below w.heap.size w w' := by
  have HE := Lib.hid (fun w1 (hB : Below w.heap.size w w1) => henv.below hB)
  have AL := Lib.hid (fun w1 (hB : Below w.heap.size w w1) => alive4_any w1 (henv.below hB))
  unfold maxLen at hl
  by_cases hbig : l.length ≤ 500
  · have HA := Lib.hid hA
    obtain ⟨i0, hi, hz0, hz1, hz2⟩ := info_parts infoByte
    have RL := Lib.hid (refLiteral_any _ A c l (by omega) w hA)
    have RB := Lib.hid (fun w1 (hB : Below w.heap.size w w1) => refBest_any w.heap.size A c l (by omega) w1 (hA.below hB))
    have hLl := litL_len l (by omega)
    have hQl := quotedL_len l
    have hS1 := scanL_inv [] l [] (by omega)
    rw [List.nil_append, List.append_nil] at hS1
    have HS1 := Lib.hid (show scanL (literalL l) 0 = some (l, (literalL l).length) by simpa using hS1)
    have HS2 : ∃ o : Option (List UInt8 × Nat), scanQ (bestL l) 0 = o ∧ (o = none ∨ ∃ m, o = some (l, m)) := by
      refine ⟨_, rfl, ?_⟩
      cases ha : allT l with
      | true =>
        right
        have := scanQ_inv [] l [] ha
        rw [List.nil_append, List.append_nil] at this
        exact ⟨_, by unfold bestL; rw [if_pos ha]; exact this⟩
      | false =>
        left
        unfold bestL
        rw [if_neg (by simp [ha])]
        exact scanQ_no (Or.inr (by unfold literalL headL; simp))
    have hbl : (bestL l).length ≤ 3000 := by
      unfold bestL
      split <;> omega
    obtain ⟨o, HS2, ho⟩ := HS2
    have HS2 := Lib.hid HS2
    have HO := Lib.hid ho
    clear henv hA hS1 hQl ho
    generalize literalL l = L at *
    generalize bestL l = L2 at *
    go_enter Tryd.func8, Tryd.ntmps8
    go_wp2_with fail
    refine RL.out.mono ?_
    rintro e w1 ⟨A1, c1, rfl, hL, hb1⟩
    have HB1 := Lib.hid hb1
    have HL := Lib.hid hL
    have HOE := Lib.hid (own_empty (sz := 1) (heap_alloc_new w1 (.cells #[] 5)) (Nat.le_refl _))
    have H63 := Lib.hid (show 0 + L.length ≤ maxLen by unfold maxLen; omega)
    have HBY := Lib.hid (show (0 + L.length) * 1 ≤ 140737488355328 by omega)
    have HSZ := Lib.hid (below_al w1 (.cells #[] 5)).size
    clear hb1 hL RL
    go_wp2_with (at_builtin; refine wpList_append_sl _ rfl _ _ 22 rfl w1.heap.size 5 i0 _ 1 Tryd.underlying22 hi hz0 hz1 hz2 rfl (by decide) _ 0 [] rfl HOE.out A1 L c1 rfl encB_len (HL.out.grow (below_al w1 _)).sl (one_flatB L) H63.out HBY.out HSZ.out ?_; intro v2 w2 hown2 hg2)
    rw [Nat.zero_add, List.nil_append] at hown2
    obtain ⟨A2, c2, rfl⟩ := own_any hown2
    have HOW := Lib.hid (ByAt.of_own hown2)
    have hb2 : Below w1.heap.size w1 w2 := (below_al w1 (.cells #[] 5)).grown hg2 HSZ.out (fun kk hkk => (HOE.out.lt kk hkk).1)
    have HB2 := Lib.hid (HB1.out.trans (hb2.mono HB1.out.size))
    have HL2 := Lib.hid (HL.out.grow hb2)
    have SL := scanLiteral_any _ c2 A2 L 0 (by omega) (by omega) (by omega) w2 (HE.out _ HB2.out) HOW.out
    rw [HS1.out] at SL
    have SL := Lib.hid SL
    clear hown2 hg2 hb2 HOE H63 HBY HSZ HB1 HL HS1
    go_wp2_with fail
    refine SL.out.mono ?_
    rintro e w3 ⟨hs, hb3⟩
    obtain ⟨g, cg, rfl, hrow⟩ := hs.some_
    have HRW := Lib.hid hrow
    have HB3 := Lib.hid hb3
    clear hs hrow hb3 SL
    go_wp2_with fail
    go_loopw [32] (fun i wr => ∃ (k : Nat) (X : List UInt8), k ≤ l.length ∧ i = .int .i64 (k : Int) ∧ Hid (X.length = l.length) ∧ Hid (wr.ownsRow w2.heap.size 5 1 (.slice (some ⟨g, 0, none⟩) l.length cg) l.length (flatL encB X)) ∧ Hid (Below w2.heap.size w2 wr)) (fun i _ => l.length - (intOf i).toNat)
    case atStart => exact ⟨0, l, Nat.zero_le _, rfl, rfl, HRW, HB3⟩
    case round =>
      obtain ⟨k, X, hk, rfl, hX, hrow, hB⟩ := hrel
      by_cases hlt : k < l.length
      · obtain ⟨q1, q2, q3, q4⟩ := own_inc hrow.out hX.out hlt
        have e1 := inc_byte (X[k]'(by rw [hX.out]; exact hlt))
        have HN := Lib.hid (show (X.set k (X[k]'(by rw [hX.out]; exact hlt) + 1)).length = l.length by rw [List.length_set]; exact hX.out)
        have HQ := Lib.hid q4
        have HB4 := Lib.hid (hB.out.setCell (p := ⟨g, k, none⟩) q3 (.int .u8 (((X[k]'(by rw [hX.out]; exact hlt)) + 1).toNat : Int)))
        generalize X.set k (X[k]'(by rw [hX.out]; exact hlt) + 1) = X2 at *
        generalize ((X[k]'(by rw [hX.out]; exact hlt)) + 1).toNat = y2 at *
        generalize (X[k]'(by rw [hX.out]; exact hlt)).toNat = y at *
        clear q4 q3 HRW HB3
        go_wp2_with fail
        go_roundw
        case rel => exact ⟨k + 1, X2, by omega, by go_num, HN, HQ, HB4⟩
        case measure => simp [intOf]; omega
      · obtain rfl : k = l.length := by omega
        have HB5 := Lib.hid (HB2.out.trans (hB.out.mono HB2.out.size))
        have HL5 := Lib.hid ((HL2.out.here.below hB.out))
        have HW5 := Lib.hid ((HOW.out.here.below hB.out))
        have RB := Lib.hid (RB.out wr HB5.out)
        clear hrow hB HRW HB3 HL2 HOW HB2 hX
        go_wp2_with fail
        refine RB.out.mono ?_
        rintro e w6 ⟨A6, c6, rfl, hq, hb6⟩
        have HB6 := Lib.hid (HB5.out.trans (hb6.mono HB5.out.size))
        have HQ6 := Lib.hid hq
        have HL6 := Lib.hid (HL5.out.grow hb6)
        have HW6 := Lib.hid (HW5.out.grow hb6)
        have HOE := Lib.hid (own_empty (sz := 1) (heap_alloc_new w6 (.cells #[] 5)) (Nat.le_refl _))
        have H63 := Lib.hid (show 0 + L2.length ≤ maxLen by unfold maxLen; omega)
        have HBY := Lib.hid (show (0 + L2.length) * 1 ≤ 140737488355328 by omega)
        have HSZ := Lib.hid (below_al w6 (.cells #[] 5)).size
        clear hb6 hq RB HB5 HL5 HW5
        go_wp2_with (at_builtin; refine wpList_append_sl _ rfl _ _ 22 rfl w6.heap.size 5 i0 _ 1 Tryd.underlying22 hi hz0 hz1 hz2 rfl (by decide) _ 0 [] rfl HOE.out A6 L2 c6 rfl encB_len (HQ6.out.grow (below_al w6 _)).sl (one_flatB L2) H63.out HBY.out HSZ.out ?_; intro v7 w7 hown7 hg7)
        rw [Nat.zero_add, List.nil_append] at hown7
        obtain ⟨A7, c7, rfl⟩ := own_any hown7
        have HM := Lib.hid (ByAt.of_own hown7)
        have hb7 : Below w6.heap.size w6 w7 := (below_al w6 (.cells #[] 5)).grown hg7 HSZ.out (fun kk hkk => (HOE.out.lt kk hkk).1)
        have HB7 := Lib.hid (HB6.out.trans (hb7.mono HB6.out.size))
        have HQ7 := Lib.hid (HQ6.out.grow hb7)
        have HL7 := Lib.hid (HL6.out.grow hb7)
        have HW7 := Lib.hid (HW6.out.grow hb7)
        have SQ := scanQuoted_any _ c7 A7 L2 0 (by omega) (by omega) (by omega) w7 HM.out
        rw [HS2.out] at SQ
        have SQ := Lib.hid SQ
        clear hown7 hg7 hb7 HOE H63 HBY HSZ HB6 HQ6 HL6 HW6 HS2
        go_wp2_with fail
        refine SQ.out.mono ?_
        rintro e w8 ⟨hs, hb8⟩
        have HB8 := Lib.hid hb8
        have AL9 := Lib.hid (fun w9 (hB : Below w7.heap.size w7 w9) => AL.out w9 (HB7.out.trans (hB.mono HB7.out.size)))
        have EQ1 := Lib.hid (fun w9 (hB : Below w7.heap.size w7 w9) => by
          have := equalB_any _ _ A2 A1 c2 c1 _ _ L L rfl rfl (by omega) (by omega) w9 ((HW7.out.here).below hB) ((HL7.out.here).below hB)
          rwa [decide_eq_true rfl] at this)
        have EQ2 := Lib.hid (fun w9 (hB : Below w7.heap.size w7 w9) => by
          have := equalB_any _ _ A7 A6 c7 c6 _ _ L2 L2 rfl rfl (by omega) (by omega) w9 ((HM.out.here).below hB) ((HQ7.out.here).below hB)
          rwa [decide_eq_true rfl] at this)
        rcases HO.out with rfl | ⟨m, rfl⟩
        · obtain rfl : e = .returned (.tuple #[.slice none 0 0, .int .i64 0, .bool false]) := by
            rcases hs with ⟨_, _, _, _, h1, _⟩ | ⟨_, h2⟩
            · cases h1
            · exact h2
          have AL9 := Lib.hid (AL9.out w8 hb8)
          clear hs hb8 SQ AL HM HQ7 HL7 HW7 HO
          go_wp2_with fail
          refine wp_loop_rounds 1 ?_
          rw [rounds_succ]
          go_wp2_with fail
          refine AL9.out.mono ?_
          rintro e w9 ⟨rfl, hb9⟩
          have HB9 := Lib.hid (HB8.out.trans (hb9.mono HB8.out.size))
          have EQ1 := Lib.hid (EQ1.out w9 HB9.out)
          clear hb9 AL9 HB8
          go_wp2_with fail
          refine EQ1.out.mono ?_
          rintro e w10 ⟨rfl, hb10⟩
          have HB10 := Lib.hid (HB9.out.trans (hb10.mono HB9.out.size))
          have EQ2 := Lib.hid (EQ2.out w10 HB10.out)
          clear hb10 EQ1 HB9
          go_wp2_with fail
          refine EQ2.out.mono ?_
          rintro e w11 ⟨rfl, hb11⟩
          have HB11 := Lib.hid (HB10.out.trans (hb11.mono HB10.out.size))
          clear hb11 EQ2 HB10
          go_wp2_with fail
          go_ret
          exact ⟨rfl, HB7.out.trans (HB11.out.mono HB7.out.size)⟩
        · obtain ⟨g8, cg8, rfl, hrow8⟩ := hs.some_
          have HR8 := Lib.hid hrow8
          clear hs hb8 SQ AL HM HQ7 HL7 HW7 HO hrow8
          go_wp2_with fail
          go_loopw [55] (fun i wr => ∃ (k : Nat) (X : List UInt8), k ≤ l.length ∧ i = .int .i64 (k : Int) ∧ Hid (X.length = l.length) ∧ Hid (wr.ownsRow w7.heap.size 5 1 (.slice (some ⟨g8, 0, none⟩) l.length cg8) l.length (flatL encB X)) ∧ Hid (Below w7.heap.size w7 wr)) (fun i _ => l.length - (intOf i).toNat)
          case atStart => exact ⟨0, l, Nat.zero_le _, rfl, rfl, HR8, HB8⟩
          case round =>
            obtain ⟨k, X, hk, rfl, hX, hrow, hB⟩ := hrel
            by_cases hlt : k < l.length
            · obtain ⟨q1, q2, q3, q4⟩ := own_inc hrow.out hX.out hlt
              have e1 := inc_byte (X[k]'(by rw [hX.out]; exact hlt))
              have HN := Lib.hid (show (X.set k (X[k]'(by rw [hX.out]; exact hlt) + 1)).length = l.length by rw [List.length_set]; exact hX.out)
              have HQ := Lib.hid q4
              have HB4 := Lib.hid (hB.out.setCell (p := ⟨g8, k, none⟩) q3 (.int .u8 (((X[k]'(by rw [hX.out]; exact hlt)) + 1).toNat : Int)))
              generalize X.set k (X[k]'(by rw [hX.out]; exact hlt) + 1) = X2 at *
              generalize ((X[k]'(by rw [hX.out]; exact hlt)) + 1).toNat = y2 at *
              generalize (X[k]'(by rw [hX.out]; exact hlt)).toNat = y at *
              clear q4 q3 HR8 HB8
              go_wp2_with fail
              go_roundw
              case rel => exact ⟨k + 1, X2, by omega, by go_num, HN, HQ, HB4⟩
              case measure => simp [intOf]; omega
            · obtain rfl : k = l.length := by omega
              have HB8 := Lib.hid hB.out
              have AL9 := Lib.hid (AL9.out wr HB8.out)
              clear hrow hB HR8 hX
              go_wp2_with fail
              refine AL9.out.mono ?_
              rintro e w9 ⟨rfl, hb9⟩
              have HB9 := Lib.hid (HB8.out.trans (hb9.mono HB8.out.size))
              have EQ1 := Lib.hid (EQ1.out w9 HB9.out)
              clear hb9 AL9 HB8
              go_wp2_with fail
              refine EQ1.out.mono ?_
              rintro e w10 ⟨rfl, hb10⟩
              have HB10 := Lib.hid (HB9.out.trans (hb10.mono HB9.out.size))
              have EQ2 := Lib.hid (EQ2.out w10 HB10.out)
              clear hb10 EQ1 HB9
              go_wp2_with fail
              refine EQ2.out.mono ?_
              rintro e w11 ⟨rfl, hb11⟩
              have HB11 := Lib.hid (HB10.out.trans (hb11.mono HB10.out.size))
              clear hb11 EQ2 HB10
              go_wp2_with fail
              go_ret
              exact ⟨rfl, HB7.out.trans (HB11.out.mono HB7.out.size)⟩
  · have hb1 : (500 : Int) < l.length := by omega
    have hb2 : (l.length : Int) ≤ 9223372036854775807 := by omega
    have AL := Lib.hid (AL.out w (Below.refl _ _))
    clear hbig henv hA
    go_enter Tryd.func8, Tryd.ntmps8
    go_wp2_with fail
    refine AL.out.mono ?_
    rintro e w1 ⟨rfl, hb⟩
    go_wp2_with fail
    go_ret
    exact ⟨rfl, hb⟩
end Go.Proofs.YtnjmaofoalgagaaDoor
