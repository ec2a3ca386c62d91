/- The law ClientRetags, at all lists of commands. -/
import Derived.Test.YtpgfnlhfciacoaaGreatDoorCliG
import Derived.Test.YtpgfnlhfciacoaaGreatDoorAlive8
import Derived.Test.YtpgfnlhfciacoaaGreatDoorSameM
import Derived.Test.YtpgfnlhfciacoaaGreatDoorHe
namespace Go.Proofs.YtpgfnlhfciacoaaGreatDoor
open Go.RowKit
open Go.Lib hiding intOf

theorem dec_two {n : Nat} (h : n < 100) : decDigits n = if 10 ≤ n then [UInt8.ofNat (48 + n / 10), UInt8.ofNat (48 + n % 10)] else [UInt8.ofNat (48 + n % 10)] := by
  rw [decDigits]
  by_cases h10 : n < 10
  · rw [dif_pos h10, if_neg (by omega), Nat.mod_eq_of_lt h10]
  · rw [dif_neg h10, if_pos (by omega), decDigits, dif_pos (by omega)]
    rfl
theorem conv_dig (W : World) (a : Nat) (ha : a ≤ 9) : (convert 24 9 (.slice (some ⟨W.heap.size, 0, none⟩) 1 1)).run Tryz.prog (W.alloc (.cells #[.int .u8 (48 + (a : Int))] 5)) = .ok (.string ⟨#[UInt8.ofNat (48 + a)]⟩) (W.alloc (.cells #[.int .u8 (48 + (a : Int))] 5)) := by
  have hc := heap_alloc_new W (.cells #[.int .u8 (48 + (a : Int))] 5)
  have ht : (UInt8.ofNat (48 + a)).toNat = 48 + a := by rw [UInt8.toNat_ofNat']; omega
  refine convS (W.alloc (.cells #[.int .u8 (48 + (a : Int))] 5)).heap.size _ (some ⟨W.heap.size, 0, none⟩) 1 1 [UInt8.ofNat (48 + a)] ⟨Nat.le_refl _, .inr ⟨W.heap.size, 0, rfl, by rw [World.size_alloc]; omega, by rw [World.size_alloc]; omega, fun j hj => ?_⟩⟩ rfl
  obtain rfl : j = 0 := by simpa using hj
  rw [Nat.zero_add, cell_of_row _ _ 0 _ _ _ hc]
  show some (Value.int .u8 (48 + (a : Int))) = some (Value.int .u8 (((UInt8.ofNat (48 + a)).toNat : Nat) : Int))
  rw [ht, Int.natCast_add]
  rfl

set_option maxRecDepth 100000 in
set_option maxHeartbeats 4000000 in
theorem clientRetags_any (s : ByteArray) (hs : s.size ≤ maxLen) (A : Option Addr) (c : Nat) (xs : List CX) (hl : xs.length ≤ maxLen) (w : World) (he : EnvB w.heap.size w) (hS : XsAt w A xs) :
    Calls Tryz.prog 7 #[.string s, .slice A xs.length c] w fun e w' => e = .returned (.bool true) ∧ Below w.heap.size w w' := by
  have AL := Lib.hid (fun W (hW : Below w.heap.size w W) => alive8_any W ((he.below hW).mono hW.size))
  have FW := Lib.hid (rfewXs_any xs A c _ rfl hl w hS)
  unfold maxLen at hs hl
  by_cases hbig : fewXs xs = true ∧ s.size ≤ 100
  rotate_left
  · have hcs : fewXs xs = false ∨ (fewXs xs = true ∧ 100 < s.size) := by
      by_cases h : fewXs xs = true
      · exact .inr ⟨h, by have : ¬ s.size ≤ 100 := fun h2 => hbig ⟨h, h2⟩; omega⟩
      · exact .inl (by simpa using h)
    rcases hcs with h | ⟨h, hz⟩
    · rw [h] at FW
      clear hbig h he hS
      generalize xs.length = n at *
      go_enter Tryz.func7, Tryz.ntmps7
      go_wp2_with fail
      refine FW.out.mono ?_
      rintro e w1 ⟨rfl, hb1⟩
      go_wp2_with fail
      refine (AL.out _ hb1).mono ?_
      rintro e w2 ⟨rfl, hb2⟩
      go_wp2_with fail
      go_ret
      exact ⟨rfl, below_next hb1 hb2⟩
    · rw [h] at FW
      have d1 : decide ((100 : Int) < (s.size : Int)) = true := by simp; omega
      have d2 : decide (100 < s.size) = true := by simpa using hz
      clear hbig h he hS
      generalize xs.length = n at *
      go_enter Tryz.func7, Tryz.ntmps7
      go_wp2_with fail
      refine FW.out.mono ?_
      rintro e w1 ⟨rfl, hb1⟩
      go_wp2_with fail
      refine (AL.out _ hb1).mono ?_
      rintro e w2 ⟨rfl, hb2⟩
      go_wp2_with fail
      go_ret
      exact ⟨rfl, below_next hb1 hb2⟩
  · obtain ⟨hfw, hz⟩ := hbig
    rw [hfw] at FW
    obtain ⟨i0, hi, hz0, hz1, hz2⟩ := info_parts infoC8g
    have hfx := hfw
    unfold fewXs at hfx
    rw [Bool.and_eq_true, List.all_eq_true] at hfx
    obtain ⟨hfe, hf30⟩ := hfx
    have hn30 : xs.length ≤ 30 := by simpa using hf30
    have hsm : ∀ x ∈ xs, x.c.set.length ≤ 60 ∧ x.c.data.length ≤ 500 := fun x hx => fewC_bd (hfe x hx)
    have d1 : decide ((100 : Int) < (s.size : Int)) = false := decide_eq_false (by omega)
    have d2 : decide (100 < s.size) = false := decide_eq_false (by omega)
    obtain ⟨pre, hpre⟩ : ∃ pre : List UInt8, s = ⟨pre.toArray⟩ := ⟨s.data.toList, by cases s; simp⟩
    have hpl : pre.length ≤ 100 := by have h := hz; rw [hpre, bsz] at h; exact h
    have HPL := Lib.hid hpl
    have HPRE := Lib.hid hpre
    have hsz9 : s.size ≤ 100 := hz
    have HS := Lib.hid hS
    have HE := Lib.hid he
    have HSM := Lib.hid hsm
    have RT : Hid (∀ (W : World) (_ : Env W) A c n (_ : xs.length = n) (_ : XsAt W A xs), Calls Tryz.prog 24 #[.string s, .slice A n c] W fun e w' => ∃ ys A' c', e = .returned (.slice A' n c') ∧ ys.length = n ∧ RtL pre xs ys ∧ XsAt w' A' ys ∧ Below W.heap.size W w') := Lib.hid (fun W hW A c n hn h => by
      have q := cretag_any pre (by have := HPL.out; omega) xs A c n hn (by omega) (fun x hx => ⟨by have := (HSM.out x hx).1; omega, by have := (HSM.out x hx).2; omega⟩) W hW h
      rw [← hpre] at q
      exact q)
    have SM := Lib.hid (fun (W : World) A B c d n (hn : xs.length = n) (h : XsAt W A xs) (h2 : XsAt W B xs) => rsameXs_any xs xs A B c d n n hn hn (by omega) (by omega) (fun x hx => ⟨by have := (HSM.out x hx).1; omega, by have := (HSM.out x hx).2; omega⟩) (fun x hx => ⟨by have := (HSM.out x hx).1; omega, by have := (HSM.out x hx).2; omega⟩) W h h2)
    rw [sameXs_map rfl] at SM
    have HLN := Lib.hid hn30
    clear hfw hfe hf30 hn30 hsm hpl hS he hz hl hpre
    go_enter Tryz.func7, Tryz.ntmps7
    go_wp2_with fail
    refine FW.out.mono ?_
    rintro e w1 ⟨rfl, hb1⟩
    have HB1 := Lib.hid hb1
    have HOE := Lib.hid (own_empty (sz := 9) (heap_alloc_new w1 (.cells #[] 26)) (Nat.le_refl _))
    have H63 := Lib.hid (show 0 + xs.length ≤ maxLen by unfold maxLen; have := HLN.out; omega)
    have HBY := Lib.hid (show (0 + xs.length) * 112 ≤ 140737488355328 by have := HLN.out; omega)
    have HB1A := Lib.hid (below_al w1 (.cells #[] 26))
    have HSZ := Lib.hid HB1A.out.size
    have HX1 := Lib.hid ((HS.out.below hb1).below HB1A.out)
    clear hb1 FW
    go_wp2_with (at_builtin; refine wpList_append_sl _ rfl _ _ 33 rfl w1.heap.size 26 i0 _ 112 Tryz.underlying33 hi hz0 hz1 hz2 rfl (by decide) _ 0 [] rfl HOE.out A xs c rfl encX_len HX1.out.sl (one_flatX xs) H63.out HBY.out HSZ.out ?_; intro v2 w2 hown2 hg2)
    rw [Nat.zero_add, List.nil_append] at hown2
    obtain ⟨A2, c2, rfl⟩ := own_any hown2
    have HB12 := Lib.hid (HB1A.out.grown hg2 HSZ.out (fun kk hkk => (HOE.out.lt kk hkk).1))
    have HB2 := Lib.hid (below_next HB1.out HB12.out)
    have HOWN := Lib.hid (show XsAt w2 A2 xs from ⟨SlAt.of_own encX_len hown2, (HS.out.below HB2.out).each⟩)
    obtain ⟨n, hn⟩ : ∃ n, xs.length = n := ⟨_, rfl⟩
    have HN := Lib.hid hn
    have RT2 := Lib.hid (RT.out w2 (HE.out.below HB2.out).env A2 c2 n hn HOWN.out)
    rw [hn] at HLN
    simp only [hn]
    clear hown2 hg2 HOE H63 HBY HB1A HSZ HX1 HB12 HB1 hn RT
    go_wp2_with fail
    refine RT2.out.mono ?_
    rintro e w3 ⟨ys, A3, c3, rfl, hyl, hrt, hX3, hb3⟩
    have HYL := Lib.hid hyl
    have HRT := Lib.hid hrt
    have HX3 := Lib.hid hX3
    have HB3 := Lib.hid (below_next HB2.out hb3)
    have SM3 := Lib.hid (SM.out w3 A2 A c2 c n HN.out (HOWN.out.below hb3) (HS.out.below HB3.out))
    have HXS := Lib.hid (HS.out.below HB3.out)
    clear hyl hrt hX3 hb3 RT2 SM HOWN HB2
    go_wp2_with fail
    refine SM3.out.mono ?_
    rintro e w4 ⟨rfl, hb4⟩
    have HB4 := Lib.hid (below_next HB3.out hb4)
    have HX4 := Lib.hid (HX3.out.below hb4)
    have HXL := Lib.hid (HXS.out.below hb4)
    clear hb4 SM3 HX3 HXS HB3
    go_wp2_with fail
    go_loopw [40] (fun i wr => ∃ k : Nat, k ≤ n ∧ i = .int .i64 (k : Int) ∧ Hid (Below w4.heap.size w4 wr)) (fun i _ => n - (intOf i).toNat)
    case atStart => exact ⟨0, Nat.zero_le _, rfl, Lib.hid (Below.refl _ _)⟩
    case round =>
      obtain ⟨k, hk, rfl, hB⟩ := hrel
      by_cases hlt : k < n
      · have hly : k < ys.length := by rw [HYL.out]; exact hlt
        obtain ⟨x, hx, hyx⟩ := HRT.out k ys[k] (List.getElem?_eq_getElem hly)
        obtain ⟨hlx, hxe⟩ := List.getElem?_eq_some_iff.1 hx
        obtain ⟨b, off, hA3, _, c0, c1, c2, c3, c4, c5, c6, c7, c8⟩ := (HX4.out.below hB.out).at hly
        subst hA3
        have EY := (HX4.out.below hB.out).each ys[k] (List.getElem_mem hly)
        have EX := (HXL.out.below hB.out).each xs[k] (List.getElem_mem hlx)
        have SX := HSM.out xs[k] (List.getElem_mem hlx)
        have HAT := Lib.hid (fun W (hW : Below wr.heap.size wr W) => ((HXL.out.below hB.out).below hW).at hlx)
        rw [hxe] at EX SX HAT
        generalize ys[k] = y at *
        obtain ⟨⟨tag, kind, mbox, set, items, mode, silent, flags, data⟩, C1, C2, p1, p2⟩ := x
        obtain ⟨yc, B1, B2, m1, m2⟩ := y
        simp only at hyx
        subst hyx
        obtain ⟨tg, htg⟩ : ∃ tg, pre ++ decDigits (k + 1) = tg := ⟨_, rfl⟩
        have HTG := Lib.hid htg
        unfold rtC at *
        rw [htg] at c0 EY
        simp only at c0 c1 c2 c3 c4 c5 c6 c7 c8 EX EY SX HAT
        obtain ⟨ns, hns⟩ : ∃ ns, set.length = ns := ⟨_, rfl⟩
        obtain ⟨nd, hnd⟩ : ∃ nd, data.length = nd := ⟨_, rfl⟩
        have SA := Lib.hid (fun W (hW : Below wr.heap.size wr W) => rsame_any ⟨tg, kind, mbox, set, items, mode, silent, flags, data⟩ ⟨tg, kind, mbox, set, items, mode, silent, flags, data⟩ B1 B2 C1 C2 ns m1 nd m2 ns p1 nd p2 hns hnd hns hnd (by rw [← hns]; have := SX.1; omega) (by rw [← hnd]; have := SX.2; omega) (by rw [← hns]; have := SX.1; omega) (by rw [← hnd]; have := SX.2; omega) W (EY.1.below hW) ((EY.2.below hW).mono hW.size) (EX.1.below hW) ((EX.2.below hW).mono hW.size))
        rw [sameC_refl7] at SA
        rw [hns] at c3 HAT
        rw [hnd] at c8 HAT
        have hk0 : (0 : Int) ≤ (k : Int) := by omega
        have hk1 : (k : Int) < (n : Int) := by omega
        have hn30 := HLN.out
        have HALy := Lib.hid (below_al wr (.cells #[.string ⟨tg.toArray⟩, .int .i64 kind, .string ⟨mbox.toArray⟩, .slice B1 ns m1, .int .i64 items, .int .i64 mode, .bool silent, .int .u8 flags, .slice B2 nd m2] 26))
        have HRY := Lib.hid (heap_alloc_new wr (.cells #[.string ⟨tg.toArray⟩, .int .i64 kind, .string ⟨mbox.toArray⟩, .slice B1 ns m1, .int .i64 items, .int .i64 mode, .bool silent, .int .u8 flags, .slice B2 nd m2] 26))
        have HZY : Hid (_ = wr.heap.size + 1) := Lib.hid (World.size_alloc wr (.cells #[.string ⟨tg.toArray⟩, .int .i64 kind, .string ⟨mbox.toArray⟩, .slice B1 ns m1, .int .i64 items, .int .i64 mode, .bool silent, .int .u8 flags, .slice B2 nd m2] 26))
        clear hx hxe hlx hly EY EX SX htg hns hnd
        go_upto_region 10 with (fail)
        generalize wr.alloc (.cells #[.string ⟨tg.toArray⟩, .int .i64 kind, .string ⟨mbox.toArray⟩, .slice B1 ns m1, .int .i64 items, .int .i64 mode, .bool silent, .int .u8 flags, .slice B2 nd m2] 26) = W9 at *
        clear c0 c1 c2 c3 c4 c5 c6 c7 c8
        obtain ⟨qa, hqa⟩ : ∃ qa, (k + 1) / 10 = qa := ⟨_, rfl⟩
        obtain ⟨qb, hqb⟩ : ∃ qb, (k + 1) % 10 = qb := ⟨_, rfl⟩
        have ha9 : qa ≤ 9 := by omega
        have hb9 : qb ≤ 9 := by omega
        have q1 : ((k : Int) + 1).tdiv 10 = (qa : Int) := by rw [Int.tdiv_eq_ediv_of_nonneg (by omega)]; omega
        have q2 : ((k : Int) + 1) / 10 = (qa : Int) := by omega
        have r1 : ((k : Int) + 1).tmod 10 = (qb : Int) := by rw [Int.tmod_eq_emod_of_nonneg (by omega)]; omega
        have r2 : ((k : Int) + 1) % 10 = (qb : Int) := by omega
        have wa : IntKind.i64.wrap (qa : Int) = (qa : Int) := IntWalk.i64_in _ (by omega)
        have wb : IntKind.i64.wrap (qb : Int) = (qb : Int) := IntWalk.i64_in _ (by omega)
        have wa2 : IntKind.i64.wrap (48 + (qa : Int)) = 48 + (qa : Int) := IntWalk.i64_in _ (by omega)
        have wb2 : IntKind.i64.wrap (48 + (qb : Int)) = 48 + (qb : Int) := IntWalk.i64_in _ (by omega)
        have wa3 : IntKind.u8.wrap (48 + (qa : Int)) = 48 + (qa : Int) := IntWalk.u8_in _ (by omega)
        have wb3 : IntKind.u8.wrap (48 + (qb : Int)) = 48 + (qb : Int) := IntWalk.u8_in _ (by omega)
        have wk : IntKind.i64.wrap ((k : Int) + 1) = (k : Int) + 1 := IntWalk.i64_in _ (by omega)
        have cda := fun W => conv_dig W qa ha9
        have cdb := fun W => conv_dig W qb hb9
        have cdc := conv_dig (W9.alloc (.cells #[.int .u8 (48 + (qa : Int))] 5)) qb hb9
        rw [World.size_alloc] at cdc
        have HD2 := Lib.hid (dec_two (n := k + 1) (by omega))
        rw [hqa, hqb] at HD2
        have hza : (ByteArray.mk #[UInt8.ofNat (48 + qa)]).size = 1 := rfl
        have hzb : (ByteArray.mk #[UInt8.ofNat (48 + qb)]).size = 1 := rfl
        have H26 : Hid ((10 ≤ k + 1 → s ++ ByteArray.mk #[UInt8.ofNat (48 + qa)] ++ ByteArray.mk #[UInt8.ofNat (48 + qb)] = ByteArray.mk tg.toArray) ∧ (¬ 10 ≤ k + 1 → s ++ ByteArray.mk #[UInt8.ofNat (48 + qb)] = ByteArray.mk tg.toArray)) := Lib.hid (by
          rw [← HTG.out, HD2.out, HPRE.out]
          refine ⟨fun h => ?_, fun h => ?_⟩
          · rw [if_pos h]
            apply ByteArray.ext
            simp [ByteArray.data_append]
          · rw [if_neg h]
            apply ByteArray.ext
            simp [ByteArray.data_append])
        clear hqa hqb HD2 HTG
        generalize ByteArray.mk #[UInt8.ofNat (48 + qa)] = dba at *
        generalize ByteArray.mk #[UInt8.ofNat (48 + qb)] = dbb at *
        generalize ByteArray.mk tg.toArray = tb at *
        by_cases h10 : 10 ≤ k + 1
        · have g1 : decide ((10 : Int) ≤ (k : Int) + 1) = true := decide_eq_true (by omega)
          have HT := Lib.hid (H26.out.1 h10)
          have HBA := Lib.hid (fun o o2 => (below_next (below_next HALy.out (below_al W9 o)) (below_al _ o2)))
          clear h10 H26
          go_upto_region 15 with (fail)
          rw [HT.out]
          have HB15 := Lib.hid (HBA.out (.cells #[.int .u8 (48 + (qa : Int))] 5) (.cells #[.int .u8 (48 + (qb : Int))] 5))
          have HRY15 := Lib.hid ((((below_al W9 (.cells #[.int .u8 (48 + (qa : Int))] 5))).block wr.heap.size (by have := HZY.out; omega)).trans HRY.out)
          have HRY16 := Lib.hid (((below_al (W9.alloc (.cells #[.int .u8 (48 + (qa : Int))] 5)) (.cells #[.int .u8 (48 + (qb : Int))] 5)).block wr.heap.size (by rw [World.size_alloc]; have := HZY.out; omega)).trans HRY15.out)
          have HZ16 := Lib.hid (show wr.heap.size < ((W9.alloc (.cells #[.int .u8 (48 + (qa : Int))] 5)).alloc (.cells #[.int .u8 (48 + (qb : Int))] 5)).heap.size by rw [World.size_alloc, World.size_alloc]; have := HZY.out; omega)
          clear HBA HRY15 HRY HALy HT cda cdb cdc HZY
          generalize (W9.alloc (.cells #[.int .u8 (48 + (qa : Int))] 5)).alloc (.cells #[.int .u8 (48 + (qb : Int))] 5) = W15 at *
          obtain ⟨bx, ox, hA, _, z0, z1, z2, z3, z4, z5, z6, z7, z8⟩ := HAT.out W15 HB15.out
          subst hA
          have HALx := Lib.hid (below_al W15 (.cells #[.string ⟨tag.toArray⟩, .int .i64 kind, .string ⟨mbox.toArray⟩, .slice C1 ns p1, .int .i64 items, .int .i64 mode, .bool silent, .int .u8 flags, .slice C2 nd p2] 26))
          have HRX := Lib.hid (heap_alloc_new W15 (.cells #[.string ⟨tag.toArray⟩, .int .i64 kind, .string ⟨mbox.toArray⟩, .slice C1 ns p1, .int .i64 items, .int .i64 mode, .bool silent, .int .u8 flags, .slice C2 nd p2] 26))
          have HZX : Hid (_ = W15.heap.size + 1) := Lib.hid (World.size_alloc W15 (.cells #[.string ⟨tag.toArray⟩, .int .i64 kind, .string ⟨mbox.toArray⟩, .slice C1 ns p1, .int .i64 items, .int .i64 mode, .bool silent, .int .u8 flags, .slice C2 nd p2] 26))
          have HRY17 := Lib.hid ((HALx.out.block wr.heap.size HZ16.out).trans HRY16.out)
          have HB17 := Lib.hid (below_next HB15.out HALx.out)
          clear HAT HALx HRY16 HB15
          go_upto_region 16 with (fail)
          generalize W15.alloc (.cells #[.string ⟨tag.toArray⟩, .int .i64 kind, .string ⟨mbox.toArray⟩, .slice C1 ns p1, .int .i64 items, .int .i64 mode, .bool silent, .int .u8 flags, .slice C2 nd p2] 26) = W17 at *
          clear z0 z1 z2 z3 z4 z5 z6 z7 z8
          obtain ⟨z0, z1, z2, z3, z4, z5, z6, z7, z8⟩ := cells9 HRX.out
          have f0 := Joins.unfrozen_of_block HRX.out 0
          go_upto_region 17 with (fail)
          have HRX2 := Lib.hid (Joins.block_setCell (i := 0) HRX.out (.string tb))
          have HB18 := Lib.hid (HB17.out.setCell (p := ⟨W15.heap.size, 0, none⟩) (Nat.le_of_lt HZ16.out) (.string tb))
          have HRY18 := Lib.hid ((Below.heap_setCell W17 ⟨W15.heap.size, 0, none⟩ (.string tb) wr.heap.size (Nat.ne_of_lt HZ16.out)).trans HRY17.out)
          generalize W17.setCell ⟨W15.heap.size, 0, none⟩ (.string tb) = W18 at *
          clear z0 z1 z2 z3 z4 z5 z6 z7 z8 f0 HRX HRY17 HB17 HZX
          obtain ⟨z0, z1, z2, z3, z4, z5, z6, z7, z8⟩ := cells9 HRX2.out
          obtain ⟨y0, y1, y2, y3, y4, y5, y6, y7, y8⟩ := cells9 HRY18.out
          have SAM := Lib.hid (SA.out W18 HB18.out)
          go_wp2_with fail
          refine SAM.out.mono ?_
          rintro e w19 ⟨rfl, hb19⟩
          have HB19 := Lib.hid (below_next hB.out (below_next HB18.out hb19))
          clear z0 z1 z2 z3 z4 z5 z6 z7 z8 y0 y1 y2 y3 y4 y5 y6 y7 y8 hb19 HRX2 HRY18 HB18 SAM SA
          go_wp2_with fail
          go_roundw
          case rel => exact ⟨k + 1, by omega, by go_num, HB19⟩
          case measure => simp [intOf]; omega
        · have g1 : decide ((10 : Int) ≤ (k : Int) + 1) = false := decide_eq_false (by omega)
          have HT := Lib.hid (H26.out.2 h10)
          have HBA := Lib.hid (fun o => (below_next HALy.out (below_al W9 o)))
          clear h10 H26
          go_upto_region 15 with (fail)
          rw [HT.out]
          have HB15 := Lib.hid (HBA.out (.cells #[.int .u8 (48 + (qb : Int))] 5))
          have HRY16 := Lib.hid (((below_al W9 (.cells #[.int .u8 (48 + (qb : Int))] 5)).block wr.heap.size (by have := HZY.out; omega)).trans HRY.out)
          have HZ16 := Lib.hid (show wr.heap.size < (W9.alloc (.cells #[.int .u8 (48 + (qb : Int))] 5)).heap.size by rw [World.size_alloc]; have := HZY.out; omega)
          clear HBA HRY HALy HT cda cdb cdc HZY
          generalize W9.alloc (.cells #[.int .u8 (48 + (qb : Int))] 5) = W15 at *
          obtain ⟨bx, ox, hA, _, z0, z1, z2, z3, z4, z5, z6, z7, z8⟩ := HAT.out W15 HB15.out
          subst hA
          have HALx := Lib.hid (below_al W15 (.cells #[.string ⟨tag.toArray⟩, .int .i64 kind, .string ⟨mbox.toArray⟩, .slice C1 ns p1, .int .i64 items, .int .i64 mode, .bool silent, .int .u8 flags, .slice C2 nd p2] 26))
          have HRX := Lib.hid (heap_alloc_new W15 (.cells #[.string ⟨tag.toArray⟩, .int .i64 kind, .string ⟨mbox.toArray⟩, .slice C1 ns p1, .int .i64 items, .int .i64 mode, .bool silent, .int .u8 flags, .slice C2 nd p2] 26))
          have HZX : Hid (_ = W15.heap.size + 1) := Lib.hid (World.size_alloc W15 (.cells #[.string ⟨tag.toArray⟩, .int .i64 kind, .string ⟨mbox.toArray⟩, .slice C1 ns p1, .int .i64 items, .int .i64 mode, .bool silent, .int .u8 flags, .slice C2 nd p2] 26))
          have HRY17 := Lib.hid ((HALx.out.block wr.heap.size HZ16.out).trans HRY16.out)
          have HB17 := Lib.hid (below_next HB15.out HALx.out)
          clear HAT HALx HRY16 HB15
          go_upto_region 16 with (fail)
          generalize W15.alloc (.cells #[.string ⟨tag.toArray⟩, .int .i64 kind, .string ⟨mbox.toArray⟩, .slice C1 ns p1, .int .i64 items, .int .i64 mode, .bool silent, .int .u8 flags, .slice C2 nd p2] 26) = W17 at *
          clear z0 z1 z2 z3 z4 z5 z6 z7 z8
          obtain ⟨z0, z1, z2, z3, z4, z5, z6, z7, z8⟩ := cells9 HRX.out
          have f0 := Joins.unfrozen_of_block HRX.out 0
          go_upto_region 17 with (fail)
          have HRX2 := Lib.hid (Joins.block_setCell (i := 0) HRX.out (.string tb))
          have HB18 := Lib.hid (HB17.out.setCell (p := ⟨W15.heap.size, 0, none⟩) (Nat.le_of_lt HZ16.out) (.string tb))
          have HRY18 := Lib.hid ((Below.heap_setCell W17 ⟨W15.heap.size, 0, none⟩ (.string tb) wr.heap.size (Nat.ne_of_lt HZ16.out)).trans HRY17.out)
          generalize W17.setCell ⟨W15.heap.size, 0, none⟩ (.string tb) = W18 at *
          clear z0 z1 z2 z3 z4 z5 z6 z7 z8 f0 HRX HRY17 HB17 HZX
          obtain ⟨z0, z1, z2, z3, z4, z5, z6, z7, z8⟩ := cells9 HRX2.out
          obtain ⟨y0, y1, y2, y3, y4, y5, y6, y7, y8⟩ := cells9 HRY18.out
          have SAM := Lib.hid (SA.out W18 HB18.out)
          go_wp2_with fail
          refine SAM.out.mono ?_
          rintro e w19 ⟨rfl, hb19⟩
          have HB19 := Lib.hid (below_next hB.out (below_next HB18.out hb19))
          clear z0 z1 z2 z3 z4 z5 z6 z7 z8 y0 y1 y2 y3 y4 y5 y6 y7 y8 hb19 HRX2 HRY18 HB18 SAM SA
          go_wp2_with fail
          go_roundw
          case rel => exact ⟨k + 1, by omega, by go_num, HB19⟩
          case measure => simp [intOf]; omega
      · obtain rfl : k = n := by omega
        have HBE := Lib.hid (below_next HB4.out hB.out)
        go_wp2_with fail
        refine (AL.out _ HBE.out).mono ?_
        rintro e w5 ⟨rfl, hb5⟩
        go_wp2_with fail
        go_ret
        exact ⟨rfl, below_next HBE.out hb5⟩
end Go.Proofs.YtpgfnlhfciacoaaGreatDoor
