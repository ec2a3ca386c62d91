import Derived.Test.YtpgfnlhfciacoaaGreatDoorPKg
import Derived.Test.YtpgfnlhfciacoaaGreatDoorPHl
import Derived.Test.YtpgfnlhfciacoaaGreatDoorPGz
set_option maxRecDepth 100000
set_option maxHeartbeats 4000000
open Go.Lib renaming hid → Hi
namespace Go.Proofs.YtpgfnlhfciacoaaGreatDoor
open Go.RowKit
def R8Post (l : List UInt8) (w : World) (e : Ending) (w' : World) : Prop :=
 ∃ fs R d, Runs l 0 fs R d ∧ Done R d ∧
  ((∃ xs cs A c, RdF fs cs ∧ xs.map (fun (x : CX) => x.c) = cs.map ciOf ∧ e = .returned (.tuple #[.slice A xs.length c, .bool (decide (R.length = 0))]) ∧ XsAt w' A xs ∧ Below w.heap.size w w') ∨
   (RdBad fs ∧ e = .returned (.tuple #[.slice none 0 0, .bool false]) ∧ Below w.heap.size w w'))
theorem rread_any (B c n : Nat) (A : Option Addr) (l : List UInt8) (hn : l.length = n) (hl : n ≤ 1000000) (hfr : ∀ fs R d, Runs l 0 fs R d → Done R d → ∀ f ∈ fs, f.data.length ≤ 9000) (w : World) (hA : ByAt B w A c l) :
 Calls Tryz.prog 21 #[.slice A n c] w (R8Post l w) := by
 obtain ⟨i0, hi, hz0, hz1, hz2⟩ := info_parts infoC8
 have SP := Hi (refSplit_any B c n A l hn hl w hA)
 have HFR := Hi hfr
 have HCN : Hid (∀ fs R d, Runs l 0 fs R d → fs.length ≤ 500000) := Hi (fun fs R d h => frs_count2 h (by rw [hn]; exact hl))
 clear hn hfr hA
 go_enter Tryz.func21, Tryz.ntmps21
 go_wp2_with fail
 refine SP.out.mono ?_
 rintro e w1 ⟨v, vs, fs, R, d, rfl, ho, hf, hb, hR, hD⟩
 obtain ⟨Av, cv, rfl⟩ := YV ho
 have HFS := Hi (FsAt.of_own ho hf)
 have HB1 := Hi hb
 have HSM := Hi (HFR.out fs R d hR hD)
 have HR := Hi hR
 have HD := Hi hD
 have hcn := HCN.out fs R d hR
 obtain ⟨m, hm⟩ : ∃ m, fs.length = m := ⟨_, rfl⟩
 obtain ⟨q, hq⟩ : ∃ q, R.length = q := ⟨_, rfl⟩
 rw [hm] at hcn ⊢
 rw [hq]
 have HM := Hi hm
 have HQ := Hi hq
 clear ho hf hb hR hD hm hq SP HFR HCN
 go_wp2_with fail
 go_loopw [6, 7] (fun v i wr => ∃ (k p : Nat) (Ao : Option Addr) (co : Nat) (xs : List CX) (cs : List Cmd), k ≤ m ∧ i = .int .i64 (k : Int) ∧ v = .slice Ao p co ∧ p ≤ k ∧ Hid (xs.length = p) ∧ Hid (RdF (fs.take k) cs) ∧ Hid (xs.map (fun (x : CX) => x.c) = cs.map ciOf) ∧ Hid (RowX w1.heap.size wr (.slice Ao p co) xs) ∧ Hid (Below w1.heap.size w1 wr)) (fun _ i _ => m - (intOf i).toNat)
 case atStart => exact ⟨0, 0, none, 0, [], [], Nat.zero_le _, rfl, rfl, Nat.le_refl _, Hi rfl, Hi .nil, Hi rfl, Hi (RowX.nil _ _), Hi (Below.refl _ _)⟩
 case round =>
  obtain ⟨k, p, Ao, co, xs, cs, hk, rfl, rfl, hpk, hXL, hRD, hXC, hO, hB⟩ := hrel
  by_cases hlt : k < m
  · have hlx : k < fs.length := by rw [HM.out]; exact hlt
    obtain ⟨b, off, Ad, cd, rfl, hbl, c0, c1, hby⟩ := (HFS.out.below hB.out).at hlx
    have hk0 : (0 : Int) ≤ (k : Int) := by omega
    have hk1 : (k : Int) < (m : Int) := by omega
    have CM := Hi (rcommand_any wr.heap.size cd Ad fs[k].data (HSM.out _ (List.getElem_mem hlx)) wr hby)
    have HTK := Hi (List.take_succ_eq_append_getElem hlx)
    have HSK := Hi (fun (h2 : fs[k].kind = 2) => (show RdF (fs.take (k + 1)) cs by rw [HTK.out]; exact hRD.out.skip h2))
    have HTA := Hi (fun (c : Cmd) (h2 : fs[k].kind = 1) (hc : IsCmd fs[k].data c true) => (show RdF (fs.take (k + 1)) (cs ++ [c]) by rw [HTK.out]; exact hRD.out.take h2 hc))
    have HBA := Hi (fun (c : Cmd) (b : Bool) (h0 : fs[k].kind ≠ 2) (hc : IsCmd fs[k].data c b) (h : fs[k].kind ≠ 1 ∨ b = false) => (show RdBad fs from ⟨k, cs, hlx, hRD.out, h0, c, b, hc, h⟩))
    clear hby HTK
    generalize fs[k].data = D at *
    generalize D.length = dl at *
    generalize fs[k].kind = kd at *
    by_cases hk2 : kd = 2
    · have ht : (((kd : Nat) : Int) == 2) = true := by rw [hk2]; rfl
      have HN := Hi (HSK.out hk2)
      clear hk2 CM HSK HTA HBA
      go_wp2_with fail
      go_roundw
      case rel => exact ⟨k + 1, p, Ao, co, xs, cs, by omega, by go_num, rfl, by omega, hXL, HN, hXC, hO, hB⟩
      case measure => simp [intOf]; omega
    · have ht : (((kd : Nat) : Int) == 2) = false := by
       rw [beq_eq_false_iff_ne]
       omega
      have HK2 := Hi hk2
      clear hk2 HSK
      go_wp2_with fail
      refine CM.out.mono ?_
      rintro e w2 ⟨cm, bb, v2, hcm, rfl, ⟨hv, hnv⟩, hb2⟩
      obtain ⟨sv, dv, rfl, ⟨A1, j1, rfl, l1, s1⟩, A2, j2, rfl, l2, s2⟩ := hv
      obtain ⟨n1, n2⟩ := hnv.both
      have C0 := Hi ((hb2.cell (p := ⟨b, off + k * 2, none⟩) hbl).trans c0)
      have HBL := Hi (Nat.lt_of_lt_of_le hbl hb2.size)
      have HB2 := Hi (YA hB.out hb2)
      have HW := Hi hb2
      have HC := Hi hcm
      have S1 := Hi s1
      have S2 := Hi s2
      have N1 := Hi n1
      have N2 := Hi n2
      have L2 := Hi l2
      have HBB := Hi (fun (h : kd ≠ 1 ∨ bb = false) => HBA.out cm bb HK2.out hcm h)
      clear hnv n1 n2 s1 s2 l1 l2 hcm CM hb2 hbl c0 c1 HBA HK2 ht
      unfold cmdA
      have HAL := Hi (YB w2 (.cells #[.string ⟨cm.tag.toArray⟩, .int .i64 (cm.kind : Int), .string ⟨cm.mbox.toArray⟩, .slice A1 cm.set.length j1, .int .i64 (cm.items : Int), .int .i64 (cm.mode : Int), .bool cm.silent, .int .u8 (cm.flags : Int), .slice A2 cm.data.length j2] 26))
      have HBK := Hi (YD w2 (.cells #[.string ⟨cm.tag.toArray⟩, .int .i64 (cm.kind : Int), .string ⟨cm.mbox.toArray⟩, .slice A1 cm.set.length j1, .int .i64 (cm.items : Int), .int .i64 (cm.mode : Int), .bool cm.silent, .int .u8 (cm.flags : Int), .slice A2 cm.data.length j2] 26))
      go_upto_region 8 with (fail)
      generalize w2.alloc (.cells #[.string ⟨cm.tag.toArray⟩, .int .i64 (cm.kind : Int), .string ⟨cm.mbox.toArray⟩, .slice A1 cm.set.length j1, .int .i64 (cm.items : Int), .int .i64 (cm.mode : Int), .bool cm.silent, .int .u8 (cm.flags : Int), .slice A2 cm.data.length j2] 26) = W3 at *
      have c0 := (HAL.out.cell (p := ⟨b, off + k * 2, none⟩) HBL.out).trans C0.out
      have HB3 := Hi (YA HB2.out HAL.out)
      by_cases hk1' : kd = 1
      · have t1 : (((kd : Nat) : Int) == 1) = true := by rw [hk1']; rfl
        have t2 : (((kd : Nat) : Int) != 1) = false := by rw [hk1']; rfl
        have HK1 := Hi hk1'
        clear hk1'
        cases bb with
        | false =>
          have HF := Hi (HBB.out (.inr rfl))
          clear HBB
          go_wp2_with fail
          go_ret2
          exact ⟨fs, R, d, HR.out, HD.out, .inr ⟨HF.out, rfl, YA HB1.out HB3.out⟩⟩
        | true =>
          have HT := Hi (HTA.out cm HK1.out HC.out)
          have HWW := Hi (YA (YA HW.out HAL.out) (YB W3 (.cells #[.string ⟨cm.tag.toArray⟩, .int .i64 (cm.kind : Int), .string ⟨cm.mbox.toArray⟩, .slice A1 cm.set.length j1, .int .i64 (cm.items : Int), .int .i64 (cm.mode : Int), .bool cm.silent, .int .u8 (cm.flags : Int), .slice A2 cm.data.length j2] 26)))
          have HO4 := Hi (hO.out.below HWW.out).own
          rw [hXL.out] at HO4
          have HSX := Hi (slAt_oneX W3 ⟨ciOf cm, A1, A2, j1, j2⟩ 26)
          have HSZ := Hi (YA HB3.out (YB W3 (.cells #[.string ⟨cm.tag.toArray⟩, .int .i64 (cm.kind : Int), .string ⟨cm.mbox.toArray⟩, .slice A1 cm.set.length j1, .int .i64 (cm.items : Int), .int .i64 (cm.mode : Int), .bool cm.silent, .int .u8 (cm.flags : Int), .slice A2 cm.data.length j2] 26))).size
          have HA3 := Hi (YA HAL.out (YB W3 (.cells #[.string ⟨cm.tag.toArray⟩, .int .i64 (cm.kind : Int), .string ⟨cm.mbox.toArray⟩, .slice A1 cm.set.length j1, .int .i64 (cm.items : Int), .int .i64 (cm.mode : Int), .bool cm.silent, .int .u8 (cm.flags : Int), .slice A2 cm.data.length j2] 26)))
          have HB4 := Hi (YA HB3.out (YB W3 (.cells #[.string ⟨cm.tag.toArray⟩, .int .i64 (cm.kind : Int), .string ⟨cm.mbox.toArray⟩, .slice A1 cm.set.length j1, .int .i64 (cm.items : Int), .int .i64 (cm.mode : Int), .bool cm.silent, .int .u8 (cm.flags : Int), .slice A2 cm.data.length j2] 26)))
          obtain ⟨x0, x1, x2, x3, x4, x5, x6, x7, x8⟩ := ZS HBK.out
          have h63 : p + 1 ≤ maxLen := by unfold maxLen; omega
          have hbyt : (p + 1) * 112 ≤ 140737488355328 := by omega
          have H63 := Hi h63
          have HBYT := Hi hbyt
          clear h63 hbyt HBB HTA
          go_wp2_with (at_builtin; refine wpList_append_slf _ rfl _ _ 33 rfl w1.heap.size 26 i0 _ 112 Tryz.underlying33 hi hz0 hz1 hz2 rfl (by decide) _ p _ rfl HO4.out _ [(⟨ciOf cm, A1, A2, j1, j2⟩ : CX)] _ rfl encX_len HSX.out (one_flatX _) H63.out HBYT.out HSZ.out ?_; intro vv w3 hown3 hg3 hf3)
          obtain ⟨A3, c3, rfl⟩ := YV hown3
          have RX := Hi (hO.out.snoc HWW.out (x := ⟨ciOf cm, A1, A2, j1, j2⟩) (S1.out.below HA3.out) (S2.out.below HA3.out) L2.out N1.out N2.out (by rw [hXL.out]; exact hown3) hg3 hf3)
          have HB5 := Hi (HB4.out.grown hg3 HSZ.out (fun kk hkk => (HO4.out.lt kk hkk).1))
          have HX1 := Hi (show (xs ++ [(⟨ciOf cm, A1, A2, j1, j2⟩ : CX)]).length = p + 1 by rw [List.length_append, hXL.out]; rfl)
          have HX2 := Hi (show (xs ++ [(⟨ciOf cm, A1, A2, j1, j2⟩ : CX)]).map (fun (x : CX) => x.c) = (cs ++ [cm]).map ciOf by rw [List.map_append, List.map_append, hXC.out]; rfl)
          clear hown3 hg3 hf3
          go_roundw
          case rel => exact ⟨k + 1, p + 1, A3, c3, _, _, by omega, by go_num, rfl, by omega, HX1, HT, HX2, RX, HB5⟩
          case measure => simp [intOf]; omega
      · have t1 : (((kd : Nat) : Int) == 1) = false := by
         rw [beq_eq_false_iff_ne]
         omega
        have t2 : (((kd : Nat) : Int) != 1) = true := by
         rw [bne_iff_ne]
         omega
        have HF := Hi (HBB.out (.inl hk1'))
        clear HBB hk1'
        go_wp2_with fail
        go_ret2
        exact ⟨fs, R, d, HR.out, HD.out, .inr ⟨HF.out, rfl, YA HB1.out HB3.out⟩⟩
  · obtain rfl : k = m := by omega
    have ht : fs.take k = fs := List.take_of_length_le (by rw [HM.out]; exact Nat.le_refl _)
    have HRD := Hi (show RdF fs cs by have := hRD.out; rwa [ht] at this)
    have TQ : (((q : Nat) : Int) == 0) = decide (q = 0) := by by_cases h : q = 0 <;> simp [h]
    clear ht hRD
    go_wp2_with fail
    go_ret2
    exact ⟨fs, R, d, HR.out, HD.out, .inl ⟨xs, cs, Ao, co, HRD.out, hXC.out, by rw [hXL.out, HQ.out]; rfl, hO.out.xsAt hXL.out.symm, YA HB1.out hB.out⟩⟩
end Go.Proofs.YtpgfnlhfciacoaaGreatDoor
