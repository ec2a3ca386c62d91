/- The law QuoteInverse at whatever lengths; the walk of the law QuoteAnnounced. -/
import Derived.Test.YtnjmaofoalgagaaDoorL4C
namespace Go.Proofs.YtnjmaofoalgagaaDoor
open Go.RowKit
open Go.Lib hiding intOf

set_option maxRecDepth 100000 in
set_option maxHeartbeats 2000000 in
theorem quoteInverse_any (A : Option Addr) (c : Nat) (l : List UInt8) (hl : l.length ≤ maxLen) (A2 : Option Addr) (c2 : Nat) (l2 : List UInt8) (hl2 : l2.length ≤ maxLen) (A3 : Option Addr) (c3 : Nat) (l3 : List UInt8) (hl3 : l3.length ≤ maxLen)
    (w : World) (henv : Env w) (hA : ByAt w.heap.size w A c l) (hA2 : ByAt w.heap.size w A2 c2 l2) (hA3 : ByAt w.heap.size w A3 c3 l3) :
    Calls Tryd.prog 6 #[.slice A l.length c, .slice A2 l2.length c2, .slice A3 l3.length c3] w fun e w' => e = .returned (.bool true) ∧ Below w.heap.size w w' := by
  by_cases h1 : l.length ≤ 500
  · by_cases h2 : l2.length ≤ 100
    · by_cases h3 : l3.length ≤ 100
      · exact quoteInverse_main A c l A2 c2 l2 A3 c3 l3 h1 h2 h3 w henv hA hA2 hA3
      · unfold maxLen at hl hl2 hl3
        have AL := Lib.hid (alive4_any w henv)
        have e1 : decide (500 < (l.length : Int)) = false := by simp; omega
        have e2 : decide (100 < (l2.length : Int)) = false := by simp; omega
        have e3 : decide (100 < (l3.length : Int)) = true := by simp; omega
        have e3' : (100 : Int) < (l3.length : Int) := by omega
        clear henv hA hA2 hA3
        go_enter Tryd.func6, Tryd.ntmps6
        go_wp2_with fail
        refine AL.out.mono ?_
        rintro e w1 ⟨rfl, hb⟩
        go_wp2_with fail
        go_ret
        exact ⟨rfl, hb⟩
    · unfold maxLen at hl hl2 hl3
      have AL := Lib.hid (alive4_any w henv)
      have e1 : decide (500 < (l.length : Int)) = false := by simp; omega
      have e2 : decide (100 < (l2.length : Int)) = true := by simp; omega
      have e2' : (100 : Int) < (l2.length : Int) := by omega
      clear henv hA hA2 hA3
      go_enter Tryd.func6, Tryd.ntmps6
      go_wp2_with fail
      refine AL.out.mono ?_
      rintro e w1 ⟨rfl, hb⟩
      go_wp2_with fail
      go_ret
      exact ⟨rfl, hb⟩
  · unfold maxLen at hl hl2 hl3
    have AL := Lib.hid (alive4_any w henv)
    have e1 : decide (500 < (l.length : Int)) = true := by simp; omega
    have e1' : (500 : Int) < (l.length : Int) := by omega
    clear henv hA hA2 hA3
    go_enter Tryd.func6, Tryd.ntmps6
    go_wp2_with fail
    refine AL.out.mono ?_
    rintro e w1 ⟨rfl, hb⟩
    go_wp2_with fail
    go_ret
    exact ⟨rfl, hb⟩

theorem byAt_zeros (w : World) (k : Nat) : ByAt (w.alloc (.cells (madeCells #[Value.int .u8 0] k) 5)).heap.size (w.alloc (.cells (madeCells #[Value.int .u8 0] k) 5)) (some ⟨w.heap.size, 0, none⟩) k (List.replicate k 0) := by
  refine ⟨by simp, .inr ⟨w.heap.size, 0, rfl, by simp, by simp, fun j hj => ?_⟩⟩
  rw [List.length_replicate] at hj
  rw [Nat.zero_add, cell_of_row _ _ j _ _ _ (heap_alloc_new w _), ← Array.getElem?_toList, toList_madeCells_one, List.getElem?_replicate, if_pos hj, List.getElem_replicate]
  rfl

set_option maxRecDepth 100000 in
set_option maxHeartbeats 4000000 in
theorem quoteAnnounced_any (A : Option Addr) (c : Nat) (l : List UInt8) (hl : l.length ≤ maxLen) (n : Nat) (hn : n ≤ 65535) (w : World) (henv : Env w) (hA : ByAt w.heap.size w A c l) :
    Calls Tryd.prog 7 #[.slice A l.length c, .int .u16 (n : Int)] w fun e w' => e = .returned (.bool true) ∧ Below w.heap.size w w' := by
  have HE := Lib.hid (fun w1 (hB : Below w.heap.size w w1) => henv.below hB)
  have AL := Lib.hid (fun w1 (hB : Below w.heap.size w w1) => alive4_any w1 (henv.below hB))
  unfold maxLen at hl
  by_cases hbig : l.length ≤ 300
  · have HA := Lib.hid hA
    obtain ⟨k, hk⟩ : ∃ k : Nat, n % 2000 = k := ⟨_, rfl⟩
    have hk2 : k ≤ 1999 := by omega
    have hkm : (n : Int) % 2000 = (k : Int) := by omega
    clear hk
    obtain ⟨i0, hi, hz0, hz1, hz2⟩ := info_parts infoB
    have hmk : ∀ W : World, (Instr.makeSlice 22 (.int .i64 (k : Int)) (.int .i64 (k : Int))).run Tryd.prog W = .ok (.slice (some ⟨W.heap.size, 0, none⟩) k k) (W.alloc (.cells (madeCells #[Value.int .u8 0] k) 5)) := fun W => by
      have := run_make (P := Tryd.prog) W 22 5 i0 _ Tryd.underlying22 hi hz0 .i64 .i64 k k (by omega) (Int.le_refl _) (by rw [hz2]; omega) (by omega)
      rw [hz1] at this
      have h2 : (Instr.makeSlice 22 (.int .i64 (k : Int)) (.int .i64 (k : Int))).run Tryd.prog W = .ok (.slice (some ⟨W.heap.size, 0, none⟩) k k) (W.alloc (.cells (madeCells (Value.int .u8 0).cells k) 5)) := by simpa using this
      exact h2
    have K0 := below_al w (.cells (madeCells #[Value.int .u8 0] k) 5)
    have LT := literal_any _ (some ⟨w.heap.size, 0, none⟩) k (List.replicate k 0) (by simp; omega) _ (HE.out _ K0) (byAt_zeros w k)
    rw [List.length_replicate] at LT
    have hd := dec_len (u := k) (by omega)
    have hd0 : 0 < (decDigits k).length := List.length_pos_iff.2 (dec_facts k).2.2
    obtain ⟨ht1, ht2⟩ := head_take k (List.replicate k 0) (by simp)
    have hLl : (literalL (List.replicate k 0)).length = (decDigits k).length + 4 + k := by
      unfold literalL headL
      simp
      omega
    have HI1 := Lib.hid (ann_head l k (by omega))
    have HI2 := Lib.hid (ann_cut l k)
    obtain ⟨H1, hH1⟩ : ∃ H, 123 :: (decDigits k ++ [125]) = H := ⟨_, rfl⟩
    obtain ⟨H2, hH2⟩ : ∃ H, 123 :: decDigits k = H := ⟨_, rfl⟩
    have hH1l : H1.length = (decDigits k).length + 2 := by rw [← hH1]; simp
    have hH2l : H2.length = (decDigits k).length + 1 := by rw [← hH2]; simp
    rw [hH1] at ht1 HI1
    rw [hH2] at ht2 HI2
    clear hH1 hH2 hi hz0 hz1 hz2 henv hA
    generalize literalL (List.replicate k 0) = L at *
    generalize (decDigits k).length = d at *
    obtain ⟨X1, hX1⟩ : ∃ X, l ++ H1 = X := ⟨_, rfl⟩
    have hX1l : X1.length ≤ 1000000 := by rw [← hX1, List.length_append]; omega
    have C1 := fun g A1 A2 c1 c2 w h0 h1' hg a1 a2 => concat2_any g A1 A2 c1 c2 l H1 (by omega) (by omega) w h0 h1' hg a1 a2
    rw [hX1] at C1 HI1
    have C1 := Lib.hid C1
    clear hX1
    obtain ⟨X2, hX2⟩ : ∃ X, l ++ H2 = X := ⟨_, rfl⟩
    have hX2l : X2.length ≤ 1000000 := by rw [← hX2, List.length_append]; omega
    have C2 := fun g A1 A2 c1 c2 w h0 h1' hg a1 a2 => concat2_any g A1 A2 c1 c2 l H2 (by omega) (by omega) w h0 h1' hg a1 a2
    rw [hX2] at C2 HI2
    have C2 := Lib.hid C2
    clear hX2
    have LT := Lib.hid LT
    have HT1 := Lib.hid ht1
    have HT2 := Lib.hid ht2
    have HLL := Lib.hid hLl
    have HH1 := Lib.hid hH1l
    have HH2 := Lib.hid hH2l
    have k0 := Lib.hid K0
    have b1 : L.length ≤ d + 4 + k := by omega
    have b2 : d + 4 + k ≤ L.length := by omega
    have b3 : ¬ ((L.length : Int) - (k : Int) - 2 < 3) := by omega
    have hse := fun x lo hi mx W => sliceAt_eq x lo hi mx W
    clear ht1 ht2 hLl hH1l hH2l K0
    go_enter Tryd.func7, Tryd.ntmps7
    go_wp2_with fail
    refine LT.out.mono ?_
    rintro e w1 ⟨AL1, cL1, rfl, hL, hb1⟩
    have HB1 := Lib.hid (k0.out.trans (hb1.mono k0.out.size))
    have HL1 := Lib.hid hL
    have hle := hL.le
    have hsl1 : ∀ W : World, (Instr.slice 22 (.slice AL1 L.length cL1) none (some (.int .i64 ((L.length : Int) - (k : Int) - 2))) none).run Tryd.prog W = .ok (.slice AL1 H1.length cL1) W := fun W => by
      have := slice_h AL1 L.length cL1 (d + 2) (by omega) W
      rw [HH1.out]
      rwa [show ((d + 2 : Nat) : Int) = (L.length : Int) - (k : Int) - 2 by omega] at this
    clear hL hb1 LT k0
    have K1 := below_al w1 (.cells #[.slice A l.length c, .slice AL1 H1.length cL1] 22)
    have HB1a := Lib.hid (HB1.out.trans (K1.mono HB1.out.size))
    have hT1 := HL1.out.take (hi := d + 2) (by omega)
    rw [HT1.out] at hT1
    have C := Lib.hid (C1.out w1.heap.size A AL1 c cL1 (w1.alloc (.cells #[.slice A l.length c, .slice AL1 H1.length cL1] 22)) (by simp) (by simp) (by simp) (HA.out.below HB1a.out).here (hT1.grow K1).here)
    have HL2 := Lib.hid (HL1.out.grow K1)
    clear hT1 K1 C1 HB1 HL1
    go_wp2_with fail
    refine C.out.mono ?_
    rintro e w2 ⟨AX, cX, rfl, hX, hb2⟩
    have HB2 := Lib.hid (HB1a.out.trans (hb2.mono HB1a.out.size))
    have HL3 := Lib.hid (HL2.out.grow hb2)
    have AN := Lib.hid (announced_any _ cX AX X1 hX1l w2 (HE.out _ HB2.out) hX)
    clear hX hb2 C HB1a HL2
    go_wp2_with fail
    refine AN.out.mono ?_
    rintro e w3 ⟨⟨o, ho, rfl⟩, hb3⟩
    obtain rfl := isAnn_eq ho HI1.out
    have HB3 := Lib.hid (HB2.out.trans (hb3.mono HB2.out.size))
    have HL4 := Lib.hid (HL3.out.grow hb3)
    clear ho hb3 AN HB2 HL3 HI1
    have hsl2 : ∀ W : World, (Instr.slice 22 (.slice AL1 L.length cL1) none (some (.int .i64 ((L.length : Int) - (k : Int) - 2 - 1))) none).run Tryd.prog W = .ok (.slice AL1 H2.length cL1) W := fun W => by
      have := slice_h AL1 L.length cL1 (d + 1) (by omega) W
      rw [HH2.out]
      rwa [show ((d + 1 : Nat) : Int) = (L.length : Int) - (k : Int) - 2 - 1 by omega] at this
    have K2 := below_al w3 (.cells #[.slice A l.length c, .slice AL1 H2.length cL1] 22)
    have HB3a := Lib.hid (HB3.out.trans (K2.mono HB3.out.size))
    have hT2 := HL4.out.take (hi := d + 1) (by omega)
    rw [HT2.out] at hT2
    have C := Lib.hid (C2.out w3.heap.size A AL1 c cL1 (w3.alloc (.cells #[.slice A l.length c, .slice AL1 H2.length cL1] 22)) (by simp) (by simp) (by simp) (HA.out.below HB3a.out).here (hT2.grow K2).here)
    clear hT2 K2 C2 HB3 HL4
    go_wp2_with fail
    refine C.out.mono ?_
    rintro e w4 ⟨AY, cY, rfl, hX, hb4⟩
    have HB4 := Lib.hid (HB3a.out.trans (hb4.mono HB3a.out.size))
    have AN := Lib.hid (announced_any _ cY AY X2 hX2l w4 (HE.out _ HB4.out) hX)
    clear hX hb4 C HB3a hsl1 hsl2
    go_wp2_with fail
    refine AN.out.mono ?_
    rintro e w5 ⟨⟨o, ho, rfl⟩, hb5⟩
    obtain rfl := isAnn_eq ho HI2.out
    have HB5 := Lib.hid (HB4.out.trans (hb5.mono HB4.out.size))
    have AL := Lib.hid (AL.out w5 HB5.out)
    clear ho hb5 AN HB4 HI2
    go_wp2_with fail
    refine AL.out.mono ?_
    rintro e w6 ⟨rfl, hb6⟩
    have HB6 := Lib.hid (HB5.out.trans (hb6.mono HB5.out.size))
    clear hb6 AL HB5
    go_wp2_with fail
    go_ret
    exact ⟨rfl, HB6.out⟩
  · have hb1 : (300 : Int) < l.length := by omega
    have hb2 : (l.length : Int) ≤ 9223372036854775807 := by omega
    have AL := Lib.hid (AL.out w (Below.refl _ _))
    clear hbig henv hA
    go_enter Tryd.func7, Tryd.ntmps7
    go_wp2_with fail
    refine AL.out.mono ?_
    rintro e w1 ⟨rfl, hb⟩
    go_wp2_with fail
    go_ret
    exact ⟨rfl, hb⟩
end Go.Proofs.YtnjmaofoalgagaaDoor
