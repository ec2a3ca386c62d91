/- The law LockPlays. -/
import Derived.Test.YtpfplniokjkcbaaL14B
import Derived.Test.YtpfplniokjkcbaaSlEqK
import Derived.Deep.RegionWith
import Derived.Deep.CutBlock
import Derived.Deep.DeepCutAuto
namespace Go.Proofs.Ytpfplniokjkcbaa
open Go.RowKit

section
variable {B g bw c ob q : Nat} {A : Option Addr} {o k : Int} {L : List Int} {w0 W : World}
theorem LPo.held (h : LPo B g bw A c ob o k L q L q w0 W) (ho : -9223372036854775808 ≤ o ∧ o ≤ 9223372036854775807) :
    Calls Try.prog 20 #[.pointer (some ⟨g, 0, none⟩), .int .i64 o] W fun e w' => ∃ A' c', e = .returned (.slice A' (heldL L o).length c') ∧ SlAt encK 1 w' A' (heldL L o) ∧ LPo B g bw A c ob o k L q L q w0 w' ∧ Below W.heap.size W w' := by
  obtain ⟨S, h1, -⟩ := h.tb
  refine (lkheld_any o ho h1).mono ?_
  rintro e w' ⟨v, rfl, hr, hb⟩
  obtain ⟨A', c', rfl⟩ := own_any hr
  exact ⟨A', c', rfl, SlAt.of_own encK_len hr, h.below hb, hb⟩
theorem LPo.heldR (h : LPo B g bw A c ob o k L q L q w0 W) (hL : L.length ≤ 1000) :
    Calls Try.prog 21 #[.agg #[.slice A L.length c, .int .i64 (q : Int)], .int .i64 o] W fun e w' => ∃ A' c', e = .returned (.slice A' (heldL L o).length c') ∧ SlAt encK 1 w' A' (heldL L o) ∧ LPo B g bw A c ob o k L q L q w0 w' ∧ Below W.heap.size W w' := by
  refine (rheld14_any (c := c) (q := (q : Int)) o hL h.rf.sl).mono ?_
  rintro e w' ⟨v, rfl, hr, hb⟩
  obtain ⟨A', c', rfl⟩ := own_any hr
  exact ⟨A', c', rfl, SlAt.of_own encK_len hr, h.below hb, hb⟩
theorem LPo.equal (h : LPo B g bw A c ob o k L q L q w0 W) {A1 A2 : Option Addr} {c1 c2 : Nat} {l : List Nat} (hl : l.length ≤ 1000) (h1 : SlAt encK 1 W A1 l) (h2 : SlAt encK 1 W A2 l) :
    Calls Try.prog 19 #[.slice A1 l.length c1, .slice A2 l.length c2] W fun e w' => e = .returned (.bool true) ∧ LPo B g bw A c ob o k L q L q w0 w' ∧ Below W.heap.size W w' := by
  refine (equalK_any A1 A2 c1 c2 l l (by omega) (by omega) W h1 h2).mono ?_
  rintro e w' ⟨rfl, hb⟩
  exact ⟨by rw [decide_eq_true rfl], h.below hb, hb⟩
theorem LPo.free (h : LPo B g bw A c ob o k L q L q w0 W) :
    Calls Try.prog 22 #[.pointer (some ⟨g, 0, none⟩)] W fun e w' => e = .returned (.bool (freeL L)) ∧ LPo B g bw A c ob o k L q L q w0 w' ∧ Below W.heap.size W w' := by
  obtain ⟨S, h1, -⟩ := h.tb
  exact (lkfree_any h1).mono fun _ _ ⟨h2, h3⟩ => ⟨h2, h.below h3, h3⟩
theorem LPo.freeR (h : LPo B g bw A c ob o k L q L q w0 W) (hL : L.length ≤ 1000) :
    Calls Try.prog 23 #[.agg #[.slice A L.length c, .int .i64 (q : Int)]] W fun e w' => e = .returned (.bool (freeL L)) ∧ LPo B g bw A c ob o k L q L q w0 w' ∧ Below W.heap.size W w' :=
  (rfree14_any (c := c) (q := (q : Int)) hL h.rf.sl).mono fun _ _ ⟨h2, h3⟩ => ⟨h2, h.below h3, h3⟩
theorem LPo.count (h : LPo B g bw A c ob o k L q L q w0 W) (hq : q ≤ 1000000) :
    Calls Try.prog 24 #[.pointer (some ⟨g, 0, none⟩)] W fun e w' => e = .returned (.int .i64 (q : Int)) ∧ LPo B g bw A c ob o k L q L q w0 w' ∧ Below W.heap.size W w' := by
  obtain ⟨S, h1, -⟩ := h.tb
  exact (lkcnt_any hq h1).mono fun _ _ ⟨h2, h3⟩ => ⟨h2, h.below h3, h3⟩
theorem LPo.owner (h : LPo B g bw A c ob o k L q L q w0 W) (hk : -9223372036854775808 ≤ k ∧ k ≤ 9223372036854775807) :
    Calls Try.prog 17 #[.pointer (some ⟨g, 0, none⟩), .int .i64 k] W fun e w' => e = .returned (.tuple #[.int .i64 (max (ownL L k) 0), .bool (decide (0 ≤ ownL L k))]) ∧ LPo B g bw A c ob o k L q L q w0 w' := by
  obtain ⟨S, h1, -⟩ := h.tb
  exact (lkown_any k hk h1).mono fun _ _ ⟨h2, h3⟩ => ⟨h2, h.below h3⟩
theorem LPo.ownerR (h : LPo B g bw A c ob o k L q L q w0 W) (hL : L.length ≤ 1000) :
    Calls Try.prog 18 #[.agg #[.slice A L.length c, .int .i64 (q : Int)], .int .i64 k] W fun e w' => e = .returned (.int .i64 (ownL L k)) ∧ LPo B g bw A c ob o k L q L q w0 w' :=
  (rowner14_any (c := c) (q := (q : Int)) k hL h.rf.sl).mono fun _ _ ⟨h2, h3⟩ => ⟨h2, h.below h3⟩
end
set_option maxRecDepth 100000 in
set_option maxHeartbeats 8000000 in
theorem plays14_main (n : Nat) (hn : n ≤ 255) (l : List Op14) (A1 : Option Addr) (c1 : Nat) (hl : l.length ≤ 100) (hok : ∀ x ∈ l, opOk x) (w : World) (hS : SlAt encO14 2 w A1 l) :
    Calls Try.prog 3 #[.int .u8 n, .slice A1 l.length c1] w fun e w' => e = .returned (.bool true) ∧ Below w.heap.size w w' := by
  have h1 : ¬ (100 : Int) < (l.length : Int) := by omega
  obtain ⟨z, hz⟩ : ∃ z, z = n % 20 := ⟨_, rfl⟩
  have hzi : Int.tmod (n : Int) 20 = (z : Int) := by rw [Int.tmod_eq_emod_of_nonneg (by omega)]; omega
  have hzi2 : (n : Int) % 20 = (z : Int) := by omega
  have hz20 : z < 20 := by omega
  have HOK := Lib.hid hok
  have HS := Lib.hid hS
  have N := Lib.hid (lknew_any z (by omega) w)
  have RN := Lib.hid (fun W => rnew14_any z (by omega) W)
  have AL := Lib.hid (fun W => alive14_any W)
  clear hok hS hz
  unfold tbV at RN
  go_enter Try.func3, Try.ntmps3
  go_wp2_with fail
  refine N.out.mono ?_
  rintro e w1 ⟨g, S, rfl, t1, s1, hb1⟩
  have T1 := Lib.hid t1
  have S1 := Lib.hid s1
  have B1 := Lib.hid hb1
  clear t1 s1 hb1 N
  go_wp2_with fail
  refine (RN.out _).mono ?_
  rintro e w2 ⟨A, c, rfl, hr, hb2⟩
  have P0 := Lib.hid (LP.start (B := w.heap.size) (w0 := w) rfl T1.out S1.out B1.out hr hb2)
  have LL := Lib.hid (show (List.replicate z (-1 : Int)).length = z from List.length_replicate)
  clear hr hb2 RN T1 S1 B1
  generalize List.replicate z (-1 : Int) = L0 at *
  have C0 : Hid (Calls Try.prog 12 #[.pointer (some ⟨g, 0, none⟩)] (w2.alloc (.cells #[.slice A z c, .int .i64 0] 28)) fun e w' => e = .returned (.int .i64 (z : Int)) ∧ LP w.heap.size g w2.heap.size A c L0 0 w w') := by
    obtain ⟨S, h1, -⟩ := P0.out.tb
    have h2 := lklen_any h1
    rw [LL.out] at h2
    exact Lib.hid (h2.mono fun _ _ ⟨h3, h4⟩ => ⟨h3, P0.out.below h4⟩)
  clear P0
  go_wp2_with fail
  refine C0.out.mono ?_
  rintro e w3 ⟨rfl, p3⟩
  have P0 := Lib.hid p3
  clear p3 C0
  generalize w2.heap.size = bw at *
  go_wp2_with fail
  go_loopw [34] (fun i wr => ∃ (k : Nat) (L : List Int) (q : Nat), k ≤ l.length ∧ i = .int .i64 k ∧ Hid (LP w.heap.size g bw A c L q w wr) ∧ Hid (L.length = z) ∧ Hid (q ≤ k)) (fun i _ => l.length - (intOf i).toNat)
  case atStart => exact ⟨0, L0, 0, Nat.zero_le _, rfl, P0, LL, Lib.hid (Nat.le_refl _)⟩
  case round =>
    obtain ⟨k, L, q, hk, rfl, HP, HL, HQ⟩ := hrel
    clear P0 LL
    by_cases hlt : k < l.length
    · obtain ⟨b, off, rfl, hb, x0, x1⟩ := (HS.out.below HP.out.be).op14 hlt
      have hk0 : (0 : Int) ≤ (k : Int) := by omega
      have hk1 : (k : Int) < (l.length : Int) := by omega
      have HOP := Lib.hid (HOK.out l[k] (List.getElem_mem hlt))
      have P1 := HP.out.op l[k].o l[k].k
      obtain ⟨y0, y1⟩ := P1.cells
      have HL9 := Lib.hid (show L.length ≤ 1000 by have := HL.out; omega)
      have HQ9 := Lib.hid (show q ≤ 1000000 by have := HQ.out; omega)
      clear HP hb
      have hbo := Lib.hid HOP.out.1
      have hbk := Lib.hid HOP.out.2
      clear HOP
      generalize l[k].o = oo at *
      generalize l[k].k = kk at *
      go_upto_if 40 with (fail)
      go_cut [48] (fun _ wx => ∃ (L' : List Int) (q' : Nat), Hid (LPo w.heap.size g bw A c wr.heap.size oo kk L' q' L' q' w wx) ∧ Hid (L'.length = z) ∧ Hid (q' ≤ k + 1))
      case first =>
        by_cases hk2 : kk = -2
        · have hb1 : (kk == -2) = true := by simp [hk2]
          have PR := Lib.hid (fun L2 q2 W (h : LPo w.heap.size g bw A c wr.heap.size oo kk L q L2 q2 w W) => h.relP hbo.out)
          have RR := Lib.hid (fun L1 q1 W (h : LPo w.heap.size g bw A c wr.heap.size oo kk L1 q1 L q w W) => h.relR HL9.out)
          have HLr := Lib.hid (show (relL L oo).length = z by unfold relL; rw [List.length_map]; exact HL.out)
          have HQr := Lib.hid (show q ≤ k + 1 by have := HQ.out; omega)
          clear hk2 HL HQ HL9 HQ9
          generalize relL L oo = L' at *
          generalize (heldL L oo).length = m at *
          go_upto_region 11 with (fail)
          go_region_held3 (fun W => W.cell? ⟨wr.heap.size, 0, none⟩ = some (.int .i64 oo) ∧ W.cell? ⟨wr.heap.size, 1, none⟩ = some (.int .i64 kk))
            ((first | (refine (show LPo w.heap.size g bw A c wr.heap.size oo kk L q L q w _ from ?_).cells; (focus ((repeat (first | assumption | refine LPo.drawN ?_ _ | refine LPo.draw ?_)); done))) | (refine (show LPo w.heap.size g bw A c wr.heap.size oo kk L' q L' q w _ from ?_).cells; (focus ((repeat (first | assumption | refine LPo.drawN ?_ _ | refine LPo.draw ?_)); done))) | (refine (show LPo w.heap.size g bw A c wr.heap.size oo kk L' q L q w _ from ?_).cells; (focus ((repeat (first | assumption | refine LPo.drawN ?_ _ | refine LPo.draw ?_)); done))) | (refine (show LPo w.heap.size g bw A c wr.heap.size oo kk L q L' q w _ from ?_).cells; (focus ((repeat (first | assumption | refine LPo.drawN ?_ _ | refine LPo.draw ?_)); done)))))
            (first
            | (go_at_call 13; refine (PR.out L q _ ?_).mono ?_; (focus ((repeat (first | assumption | refine LPo.drawN ?_ _ | refine LPo.draw ?_)); done)); rintro e w5 ⟨rfl, h5⟩; have ⟨z0, z1⟩ := h5.cells)
            | (go_at_call 13; refine (PR.out L' q _ ?_).mono ?_; (focus ((repeat (first | assumption | refine LPo.drawN ?_ _ | refine LPo.draw ?_)); done)); rintro e w5 ⟨rfl, h5⟩; have ⟨z0, z1⟩ := h5.cells)
            | (go_at_call 14; refine (RR.out L q _ ?_).mono ?_; (focus ((repeat (first | assumption | refine LPo.drawN ?_ _ | refine LPo.draw ?_)); done)); rintro e w6 ⟨rfl, h6⟩; have ⟨z0, z1⟩ := h6.cells)
            | (go_at_call 14; refine (RR.out L' q _ ?_).mono ?_; (focus ((repeat (first | assumption | refine LPo.drawN ?_ _ | refine LPo.draw ?_)); done)); rintro e w6 ⟨rfl, h6⟩; have ⟨z0, z1⟩ := h6.cells))
          all_goals
            go_wp2_with fail
            go_meet
            exact ⟨L', q, Lib.hid (by first | exact h5 | exact h6 | exact h5.draw | exact h6.draw), HLr, HQr⟩
        · have hb1 : (kk == -2) = false := by simpa using hk2
          have PR := Lib.hid (fun L2 q2 W (h : LPo w.heap.size g bw A c wr.heap.size oo kk L q L2 q2 w W) => h.acqP hbo.out hbk.out HQ9.out)
          have RR := Lib.hid (fun L1 q1 W (h : LPo w.heap.size g bw A c wr.heap.size oo kk L1 q1 L q w W) => h.acqR HL9.out HQ9.out)
          have HLr := Lib.hid ((acqL_len L oo kk).trans HL.out)
          have HQr := Lib.hid (two_cnt (c := (acqL L oo kk).2) HQ.out rfl)
          clear hk2 HL HQ HL9 HQ9
          generalize (if (acqL L oo kk).2 = 0 then q + 1 else q) = q' at *
          generalize (acqL L oo kk).1 = L' at *
          generalize (acqL L oo kk).2 = m at *
          go_upto_region 13 with (fail)
          go_region_held3 (fun W => W.cell? ⟨wr.heap.size, 0, none⟩ = some (.int .i64 oo) ∧ W.cell? ⟨wr.heap.size, 1, none⟩ = some (.int .i64 kk))
            ((first | (refine (show LPo w.heap.size g bw A c wr.heap.size oo kk L q L q w _ from ?_).cells; (focus ((repeat (first | assumption | refine LPo.drawN ?_ _ | refine LPo.draw ?_)); done))) | (refine (show LPo w.heap.size g bw A c wr.heap.size oo kk L' q' L' q' w _ from ?_).cells; (focus ((repeat (first | assumption | refine LPo.drawN ?_ _ | refine LPo.draw ?_)); done))) | (refine (show LPo w.heap.size g bw A c wr.heap.size oo kk L' q' L q w _ from ?_).cells; (focus ((repeat (first | assumption | refine LPo.drawN ?_ _ | refine LPo.draw ?_)); done))) | (refine (show LPo w.heap.size g bw A c wr.heap.size oo kk L q L' q' w _ from ?_).cells; (focus ((repeat (first | assumption | refine LPo.drawN ?_ _ | refine LPo.draw ?_)); done)))))
            (first
            | (go_at_call 15; refine (PR.out L q _ ?_).mono ?_; (focus ((repeat (first | assumption | refine LPo.drawN ?_ _ | refine LPo.draw ?_)); done)); rintro e w5 ⟨rfl, h5⟩; have ⟨z0, z1⟩ := h5.cells)
            | (go_at_call 15; refine (PR.out L' q' _ ?_).mono ?_; (focus ((repeat (first | assumption | refine LPo.drawN ?_ _ | refine LPo.draw ?_)); done)); rintro e w5 ⟨rfl, h5⟩; have ⟨z0, z1⟩ := h5.cells)
            | (go_at_call 16; refine (RR.out L q _ ?_).mono ?_; (focus ((repeat (first | assumption | refine LPo.drawN ?_ _ | refine LPo.draw ?_)); done)); rintro e w6 ⟨rfl, h6⟩; have ⟨z0, z1⟩ := h6.cells)
            | (go_at_call 16; refine (RR.out L' q' _ ?_).mono ?_; (focus ((repeat (first | assumption | refine LPo.drawN ?_ _ | refine LPo.draw ?_)); done)); rintro e w6 ⟨rfl, h6⟩; have ⟨z0, z1⟩ := h6.cells))
          all_goals
            go_wp2_with fail
            go_meet
            exact ⟨L', q', Lib.hid (by first | exact h5 | exact h6 | exact h5.draw | exact h6.draw), HLr, HQr⟩
      case rest =>
        obtain ⟨L', q', HP, HL', HQ'⟩ := hcut
        have HL9' := Lib.hid (show L'.length ≤ 1000 by have := HL'.out; omega)
        have HQ9' := Lib.hid (show q' ≤ 1000000 by have := HQ'.out; omega)
        obtain ⟨z0, z1⟩ := HP.out.cells
        have C1 := Lib.hid (HP.out.owner hbk.out)
        clear HL HQ HL9 HQ9 y0 y1 x0 x1 P1
        have hh := heldL_len L' oo
        have HFwd := Lib.hid hh
        clear hh
        go_wp2_with fail
        refine C1.out.mono ?_
        rintro e w7 ⟨rfl, h7⟩
        have H7 := Lib.hid h7
        obtain ⟨z0, z1⟩ := h7.cells
        obtain ⟨d0, d1⟩ := h7.rf.cells
        have C2 := Lib.hid (h7.ownerR HL9'.out)
        clear h7 C1 HP
        go_wp2_with fail
        refine C2.out.mono ?_
        rintro e w8 ⟨rfl, h8⟩
        have PH := Lib.hid (fun W (h : LPo w.heap.size g bw A c wr.heap.size oo kk L' q' L' q' w W) => h.held hbo.out)
        have RH := Lib.hid (fun W (h : LPo w.heap.size g bw A c wr.heap.size oo kk L' q' L' q' w W) => h.heldR HL9'.out)
        have EQ := Lib.hid (fun (A1 A2 : Option Addr) (c1 c2 : Nat) W (h : LPo w.heap.size g bw A c wr.heap.size oo kk L' q' L' q' w W) h1 h2 => h.equal (A1 := A1) (A2 := A2) (c1 := c1) (c2 := c2) (l := heldL L' oo) (by have := HFwd.out; have := HL9'.out; omega) h1 h2)
        have PF := Lib.hid (fun W (h : LPo w.heap.size g bw A c wr.heap.size oo kk L' q' L' q' w W) => h.free)
        have RF := Lib.hid (fun W (h : LPo w.heap.size g bw A c wr.heap.size oo kk L' q' L' q' w W) => h.freeR HL9'.out)
        have PC := Lib.hid (fun W (h : LPo w.heap.size g bw A c wr.heap.size oo kk L' q' L' q' w W) => h.count HQ9'.out)
        obtain ⟨z0, z1⟩ := h8.cells
        obtain ⟨d0, d1⟩ := h8.rf.cells
        clear C2 H7 HFwd
        generalize ownL L' kk = y at *
        generalize heldL L' oo = HH at *
        generalize freeL L' = fr at *
        have hmx : max y 0 = if 0 ≤ y then y else 0 := by split <;> omega
        rw [hmx]
        clear hmx
        by_cases hy : 0 ≤ y
        · rw [if_pos hy]
          have hyd : decide (0 ≤ y) = true := decide_eq_true hy
          have hmy : max y 0 = y := by omega
          go_upto_region 17 with (fail)
          go_region_held3 (fun W => W.cell? ⟨bw, 0, none⟩ = some (.slice A L'.length c) ∧ W.cell? ⟨bw, 1, none⟩ = some (.int .i64 (q' : Int)) ∧ W.cell? ⟨wr.heap.size, 0, none⟩ = some (.int .i64 oo) ∧ W.cell? ⟨wr.heap.size, 1, none⟩ = some (.int .i64 kk) ∧ LPo w.heap.size g bw A c wr.heap.size oo kk L' q' L' q' w W)
            ((refine LPo.keep ?_; (focus ((repeat (first | assumption | refine LPo.drawN ?_ _ | refine LPo.draw ?_)); done))))
            (first
              | (go_at_call 20; refine (PH.out _ ?_).mono ?_; (focus ((repeat (first | assumption | refine LPo.drawN ?_ _ | refine LPo.draw ?_)); done)); rintro e' wa ⟨A5, c5, rfl, h5, ha, hb⟩ ; (try replace h6 := h6.below (below_next (by repeat (first | assumption | exact Below.refl _ _ | refine belowDrawN ?_ _ | refine belowDraw ?_)) hb)))
              | (go_at_call 21; refine (RH.out _ ?_).mono ?_; (focus ((repeat (first | assumption | refine LPo.drawN ?_ _ | refine LPo.draw ?_)); done)); rintro e' wb ⟨A6, c6, rfl, h6, hbb, hb⟩ ; (try replace h5 := h5.below (below_next (by repeat (first | assumption | exact Below.refl _ _ | refine belowDrawN ?_ _ | refine belowDraw ?_)) hb)))
              | (go_at_call 19; refine (EQ.out _ _ _ _ _ ?_ (h5.below (by repeat (first | assumption | exact Below.refl _ _ | refine belowDrawN ?_ _ | refine belowDraw ?_))) (h6.below (by repeat (first | assumption | exact Below.refl _ _ | refine belowDrawN ?_ _ | refine belowDraw ?_)))).mono ?_; (focus ((repeat (first | assumption | refine LPo.drawN ?_ _ | refine LPo.draw ?_)); done)); rintro e' wc2 ⟨rfl, hc, hb⟩)
              | (go_at_call 22; refine (PF.out _ ?_).mono ?_; (focus ((repeat (first | assumption | refine LPo.drawN ?_ _ | refine LPo.draw ?_)); done)); rintro e' wd ⟨rfl, hd, hb⟩ ; (try replace h5 := h5.below (below_next (by repeat (first | assumption | exact Below.refl _ _ | refine belowDrawN ?_ _ | refine belowDraw ?_)) hb)); (try replace h6 := h6.below (below_next (by repeat (first | assumption | exact Below.refl _ _ | refine belowDrawN ?_ _ | refine belowDraw ?_)) hb)))
              | (go_at_call 23; refine (RF.out _ ?_).mono ?_; (focus ((repeat (first | assumption | refine LPo.drawN ?_ _ | refine LPo.draw ?_)); done)); rintro e' we ⟨rfl, he, hb⟩ ; (try replace h5 := h5.below (below_next (by repeat (first | assumption | exact Below.refl _ _ | refine belowDrawN ?_ _ | refine belowDraw ?_)) hb)); (try replace h6 := h6.below (below_next (by repeat (first | assumption | exact Below.refl _ _ | refine belowDrawN ?_ _ | refine belowDraw ?_)) hb)))
              | (go_at_call 24; refine (PC.out _ ?_).mono ?_; (focus ((repeat (first | assumption | refine LPo.drawN ?_ _ | refine LPo.draw ?_)); done)); rintro e' wf ⟨rfl, hf, hb⟩ ; (try replace h5 := h5.below (below_next (by repeat (first | assumption | exact Below.refl _ _ | refine belowDrawN ?_ _ | refine belowDraw ?_)) hb)); (try replace h6 := h6.below (below_next (by repeat (first | assumption | exact Below.refl _ _ | refine belowDrawN ?_ _ | refine belowDraw ?_)) hb))))
          all_goals
            go_wp2_with fail
            go_roundw
            case rel => exact ⟨k + 1, L', q', by omega, by go_num, Lib.hid hf.drop, HL', HQ'⟩
            case measure => simp [intOf]; omega
        · rw [if_neg hy]
          have hyd : decide (0 ≤ y) = false := decide_eq_false hy
          have hmy : max y 0 = 0 := by omega
          go_upto_region 17 with (fail)
          go_region_held3 (fun W => W.cell? ⟨bw, 0, none⟩ = some (.slice A L'.length c) ∧ W.cell? ⟨bw, 1, none⟩ = some (.int .i64 (q' : Int)) ∧ W.cell? ⟨wr.heap.size, 0, none⟩ = some (.int .i64 oo) ∧ W.cell? ⟨wr.heap.size, 1, none⟩ = some (.int .i64 kk) ∧ LPo w.heap.size g bw A c wr.heap.size oo kk L' q' L' q' w W)
            ((refine LPo.keep ?_; (focus ((repeat (first | assumption | refine LPo.drawN ?_ _ | refine LPo.draw ?_)); done))))
            (first
              | (go_at_call 20; refine (PH.out _ ?_).mono ?_; (focus ((repeat (first | assumption | refine LPo.drawN ?_ _ | refine LPo.draw ?_)); done)); rintro e' wa ⟨A5, c5, rfl, h5, ha, hb⟩ ; (try replace h6 := h6.below (below_next (by repeat (first | assumption | exact Below.refl _ _ | refine belowDrawN ?_ _ | refine belowDraw ?_)) hb)))
              | (go_at_call 21; refine (RH.out _ ?_).mono ?_; (focus ((repeat (first | assumption | refine LPo.drawN ?_ _ | refine LPo.draw ?_)); done)); rintro e' wb ⟨A6, c6, rfl, h6, hbb, hb⟩ ; (try replace h5 := h5.below (below_next (by repeat (first | assumption | exact Below.refl _ _ | refine belowDrawN ?_ _ | refine belowDraw ?_)) hb)))
              | (go_at_call 19; refine (EQ.out _ _ _ _ _ ?_ (h5.below (by repeat (first | assumption | exact Below.refl _ _ | refine belowDrawN ?_ _ | refine belowDraw ?_))) (h6.below (by repeat (first | assumption | exact Below.refl _ _ | refine belowDrawN ?_ _ | refine belowDraw ?_)))).mono ?_; (focus ((repeat (first | assumption | refine LPo.drawN ?_ _ | refine LPo.draw ?_)); done)); rintro e' wc2 ⟨rfl, hc, hb⟩)
              | (go_at_call 22; refine (PF.out _ ?_).mono ?_; (focus ((repeat (first | assumption | refine LPo.drawN ?_ _ | refine LPo.draw ?_)); done)); rintro e' wd ⟨rfl, hd, hb⟩ ; (try replace h5 := h5.below (below_next (by repeat (first | assumption | exact Below.refl _ _ | refine belowDrawN ?_ _ | refine belowDraw ?_)) hb)); (try replace h6 := h6.below (below_next (by repeat (first | assumption | exact Below.refl _ _ | refine belowDrawN ?_ _ | refine belowDraw ?_)) hb)))
              | (go_at_call 23; refine (RF.out _ ?_).mono ?_; (focus ((repeat (first | assumption | refine LPo.drawN ?_ _ | refine LPo.draw ?_)); done)); rintro e' we ⟨rfl, he, hb⟩ ; (try replace h5 := h5.below (below_next (by repeat (first | assumption | exact Below.refl _ _ | refine belowDrawN ?_ _ | refine belowDraw ?_)) hb)); (try replace h6 := h6.below (below_next (by repeat (first | assumption | exact Below.refl _ _ | refine belowDrawN ?_ _ | refine belowDraw ?_)) hb)))
              | (go_at_call 24; refine (PC.out _ ?_).mono ?_; (focus ((repeat (first | assumption | refine LPo.drawN ?_ _ | refine LPo.draw ?_)); done)); rintro e' wf ⟨rfl, hf, hb⟩ ; (try replace h5 := h5.below (below_next (by repeat (first | assumption | exact Below.refl _ _ | refine belowDrawN ?_ _ | refine belowDraw ?_)) hb)); (try replace h6 := h6.below (below_next (by repeat (first | assumption | exact Below.refl _ _ | refine belowDrawN ?_ _ | refine belowDraw ?_)) hb))))
          all_goals
            go_wp2_with fail
            go_roundw
            case rel => exact ⟨k + 1, L', q', by omega, by go_num, Lib.hid hf.drop, HL', HQ'⟩
            case measure => simp [intOf]; omega
    · obtain rfl : k = l.length := by omega
      have HB := Lib.hid HP.out.be
      have HZ := Lib.hid HP.out.sz
      clear HP
      go_wp2_with fail
      refine (AL.out _).mono ?_
      rintro e w9 ⟨rfl, hb9⟩
      have HF := Lib.hid (HB.out.trans (hb9.mono HZ.out))
      clear hb9 AL
      go_wp2_with fail
      go_ret
      exact ⟨rfl, HF.out⟩
theorem lockPlays_any (n : Nat) (hn : n ≤ 255) (l : List Op14) (A1 : Option Addr) (c1 : Nat) (hlm : l.length ≤ maxLen) (hok : ∀ x ∈ l, opOk x) (w : World) (hS : SlAt encO14 2 w A1 l) :
    Calls Try.prog 3 #[.int .u8 n, .slice A1 l.length c1] w fun e w' => e = .returned (.bool true) ∧ Below w.heap.size w w' := by
  unfold maxLen at hlm
  have AL := Lib.hid (fun W => alive14_any W)
  by_cases h1 : l.length ≤ 100
  · exact plays14_main n hn l A1 c1 h1 hok w hS
  · have h1i : (100 : Int) < (l.length : Int) := by omega
    clear h1 hS hok
    generalize l.length = n1 at *
    go_enter Try.func3, Try.ntmps3
    go_wp2_with fail
    refine (AL.out _).mono ?_
    rintro e w1 ⟨rfl, hb⟩
    go_wp2_with fail
    go_ret
    exact ⟨rfl, hb⟩
theorem lockPlays_law (n : Nat) (hn : n ≤ 255) (A1 : Option Addr) (c1 : Nat) (l : List Op14) (hlm : l.length ≤ maxLen) (hok : ∀ x ∈ l, opOk x) (w : World) (hS : SlAt encO14 2 w A1 l) :
    Calls Try.prog 3 #[.int .u8 n, .slice A1 l.length c1] w fun e w' => e = .returned (.bool true) ∧ Below w.heap.size w w' := lockPlays_any n hn l A1 c1 hlm hok w hS
end Go.Proofs.Ytpfplniokjkcbaa
