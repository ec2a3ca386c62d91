/- The law EventKeeps. -/
import Derived.Test.YtfmloifgngembaaL15Z
import Derived.Test.YtfmloifgngembaaEvDel
import Derived.Test.YtfmloifgngembaaRf15F
namespace Go.Proofs.Ytfmloifgngembaa
open Go.RowKit

theorem flatEv_set (l : List EvI) (j u : Nat) (hj : j < l.length) : (flatL encEv l).set (j * 3 + 1) (.int .u32 (u : Int)) = flatL encEv (l.set j ⟨l[j].k, u, l[j].f⟩) := by
  induction l generalizing j with
  | nil => simp at hj
  | cons a l ih =>
    rcases j with _ | j
    · simp [flatL, encEv]
    · have := ih j (by simpa using hj)
      have e : (j + 1) * 3 + 1 = (j * 3 + 1) + 3 := by omega
      rw [e]
      simp [flatL, encEv] at this ⊢
      exact this
/-- A row that the law holds, its element's identifier written anew. -/
theorem QX.bump {B g : Nat} {o : Option Nat} {q d : List EvI} {w0 W : World} {b c k : Nat} (h : QX B g o q [⟨some ⟨b, 0, none⟩, c, d⟩] w0 W) (hk : k < d.length) (u : Nat) :
    QX B g o q [⟨some ⟨b, 0, none⟩, c, d.set k ⟨d[k].k, u, d[k].f⟩⟩] w0 (W.setCell ⟨b, k * 3 + 1, none⟩ (.int .u32 (u : Int))) := by
  obtain ⟨S, h1, h2, h3, h4⟩ := h.tb
  have ho := h.rw _ (List.mem_cons_self ..)
  have hb := ho.lt (k := b) ⟨_, rfl, rfl⟩
  have hk2 : KeptO (fun j => j = b) W (W.setCell ⟨b, k * 3 + 1, none⟩ (.int .u32 (u : Int))) := KeptO.of_grown (grown_setCell W b _ _) fun r e => by cases e; rfl
  have out : ∀ S' : Nat → Prop, Out S' (some ⟨b, 0, none⟩) → ∀ j, S' j → ¬ j = b := fun S' hS j hj e => hS _ rfl (e ▸ hj)
  have hS := h3 _ (List.mem_cons_self ..)
  refine ⟨⟨S, h1.kept hk2 (out S hS), h2, fun r hr => ?_, fun g2 e => ?_⟩, fun r hr => ?_, h.be.trans (hk2.below (fun j e => by rw [e]; exact hb.1) h.sz), Nat.le_trans h.sz hk2.size⟩
  · obtain rfl := List.mem_singleton.1 hr
    exact hS
  · obtain ⟨S2, k1, k2, k3⟩ := h4 g2 e
    have k4 := k3 _ (List.mem_cons_self ..)
    refine ⟨S2, k1.kept hk2 (out S2 k4), k2, fun r hr => ?_⟩
    obtain rfl := List.mem_singleton.1 hr
    exact k4
  · obtain rfl := List.mem_singleton.1 hr
    have := (ho.stored (k * 3 + 1) (.int .u32 (u : Int))).1
    unfold EvRow.own
    simp only [List.length_set]
    rw [← flatEv_set d k u hk]
    exact this
theorem gone_sq (q : List EvI) : sqE (toldE true (restE false q)) = restE false q := by
  have e : toldE true (restE false q) = restE false q := by simp [toldE]
  rw [e]
  refine sqE_id ?_
  rw [List.pairwise_iff_getElem]
  rintro i j hi hj _ ⟨h1, _⟩
  have hm : (restE false q)[i] ∈ restE false q := List.getElem_mem hi
  have h2 := (List.mem_filter.1 hm).2
  rw [h1] at h2
  exact absurd h2 (by decide)
set_option maxRecDepth 100000 in
set_option maxHeartbeats 4000000 in
theorem keeps_main (A : Option Addr) (c : Nat) (l : List EvI) (hl : l.length ≤ 100) (hok : ∀ x ∈ l, evOk x) (w : World) (hS : SlAt encEv 3 w A l) :
    Calls Try.prog 7 #[.slice A l.length c] w fun e w' => e = .returned (.bool true) ∧ Below w.heap.size w w' := by
  obtain ⟨i0, hi, hz0, hz1, hz2⟩ := info_parts infoEv
  have h1 : ¬ (100 : Int) < (l.length : Int) := by omega
  have AL := Lib.hid (fun W => alive15_any W)
  have HS := Lib.hid hS
  have HOK := Lib.hid hok
  have N := Lib.hid (fun W => qnew_any W)
  have H63 := Lib.hid (show 0 + l.length ≤ maxLen by unfold maxLen; omega)
  have HBY := Lib.hid (show (0 + l.length) * 16 ≤ 140737488355328 by omega)
  have hq0 := Lib.hid (show (pushE [] l).length ≤ 100 by have := pushE_len [] l; simp at this; omega)
  have hq1 := Lib.hid (show (restE false (pushE [] l)).length ≤ 100 by have := restE_len false (pushE [] l); have := hq0.out; omega)
  have HGS := Lib.hid (gone_sq (pushE [] l))
  clear hS hok
  go_enter Try.func7, Try.ntmps7
  go_wp2_with fail
  refine (N.out _).mono ?_
  rintro e w1 ⟨g, S, rfl, t1, s1, hb1⟩
  have Q1 := Lib.hid (QX.start rfl t1 s1 hb1)
  clear t1 s1 hb1
  go_wp2_with fail
  refine (N.out _).mono ?_
  rintro e w2 ⟨g2, S2, rfl, t2, s2, hb2⟩
  have Q2 := Lib.hid (Q1.out.other t2 s2 hb2)
  clear t2 s2 hb2 Q1 N
  have BE := Lib.hid (below_al w2 (.cells #[] 39))
  have HSA := Lib.hid ((HS.out.below Q2.out.be).below BE.out)
  have HOE := Lib.hid (own_empty (sz := 3) (heap_alloc_new w2 (.cells #[] 39)) (Nat.le_refl _))
  have HSZ := Lib.hid BE.out.size
  go_wp2_with (at_builtin; refine wpList_append_sl _ rfl _ _ 28 rfl w2.heap.size 39 i0 _ 16 Try.underlying28 hi hz0 hz1 hz2 rfl (by decide) _ 0 [] rfl HOE.out A l c rfl encEv_len HSA.out (one_flatEv l) H63.out HBY.out HSZ.out ?_; intro v3 w3 hown3 hg3; rw [Nat.zero_add, List.nil_append] at hown3; obtain ⟨A3, c3, rfl⟩ := own_any hown3; have Q3 := Lib.hid (Q2.out.add (r := ⟨A3, c3, l⟩) (BE.out.grown hg3 HSZ.out (fun kk hkk => (HOE.out.lt kk hkk).1)) hown3); have P3 := Lib.hid (Q3.out.push A3 c3 l (by omega) (by simp) HOK.out (Q3.out.rw _ (List.mem_cons_self ..)).sl (.inr (.inr ⟨_, List.mem_cons_self .., rfl⟩))); clear hown3 hg3 HOE HSA BE Q2)
  refine P3.out.mono ?_
  rintro e w4 ⟨rfl, q4⟩
  have Q4 := Lib.hid q4
  clear q4 P3 Q3
  go_wp2_with fail
  go_loopw [32] (fun i wr => ∃ k : Nat, k ≤ l.length ∧ i = .int .i64 k ∧ ∃ d : List EvI, Hid (d.length = l.length) ∧ Hid (QX w.heap.size g (some g2) (pushE [] l) [⟨A3, c3, d⟩] w wr)) (fun i _ => l.length - (intOf i).toNat)
  case atStart => exact ⟨0, Nat.zero_le _, rfl, l, Lib.hid rfl, Q4⟩
  case round =>
    obtain ⟨k, hk, rfl, d, hd, hX⟩ := hrel
    have hk0 : (0 : Int) ≤ (k : Int) := by omega
    by_cases hlt : k < l.length
    · have hkd : k < d.length := by rw [hd.out]; exact hlt
      have ho := hX.out.rw _ (List.mem_cons_self ..)
      obtain ⟨b, hA, hbB, _, _, hRE⟩ := RE.of_own ho rfl (show d ≠ [] from fun e => by rw [e] at hkd; simp at hkd)
      simp only at hA
      subst hA
      have hk1 : (k : Int) < ((l.length : Nat) : Int) := by omega
      obtain ⟨x0, x1, x2⟩ := hRE.at_ hkd
      have fz := hRE.fz (k * 3 + 1)
      have HM := Lib.hid (fun u' => hX.out.bump (b := b) hkd u')
      clear ho hRE
      generalize d[k].u = uu at *
      obtain ⟨u2, hu2⟩ : ∃ u2 : Nat, IntKind.u32.wrap ((uu : Int) + 1) = (u2 : Int) := ⟨(IntKind.u32.wrap ((uu : Int) + 1)).toNat, by simp [IntKind.wrap, IntKind.bits, IntKind.signed]; omega⟩
      have HM2 := Lib.hid (HM.out u2)
      clear HM hX
      go_wp2_with fail
      go_roundw
      case rel => exact ⟨k + 1, by omega, by go_num, _, Lib.hid (by rw [List.length_set]; exact hd.out), HM2⟩
      case measure => simp [intOf]; omega
    · obtain rfl : k = l.length := by omega
      have F5 := Lib.hid (hX.out.flush false (by have := hq0.out; omega))
      clear hX hd Q4 hlt hk
      go_wp2_with fail
      refine F5.out.mono ?_
      rintro e w5 ⟨⟨A5, c5, l5⟩, rfl, e5, q5⟩
      have Q5 := Lib.hid (q5.sub (rows' := [⟨A5, c5, l5⟩]) fun r hr => by rw [List.mem_singleton.1 hr]; exact List.mem_cons_self ..)
      have hl5 : l5.length ≤ 100 := by
        have h1 : l5 = _ := e5
        rw [h1]
        have := sqE_len (toldE false (pushE [] l))
        have := toldE_len false (pushE [] l)
        have := hq0.out
        omega
      clear q5 F5 e5
      go_wp2_with fail
      go_loopw [48] (fun i wr => ∃ k : Nat, k ≤ l5.length ∧ i = .int .i64 k ∧ ∃ d : List EvI, Hid (d.length = l5.length) ∧ Hid (QX w.heap.size g (some g2) (restE false (pushE [] l)) [⟨A5, c5, d⟩] w wr)) (fun i _ => l5.length - (intOf i).toNat)
      case atStart => exact ⟨0, Nat.zero_le _, rfl, l5, Lib.hid rfl, Q5⟩
      case round =>
        obtain ⟨k, hk, rfl, d, hd, hX⟩ := hrel
        have hk0 : (0 : Int) ≤ (k : Int) := by omega
        by_cases hlt : k < l5.length
        · have hkd : k < d.length := by rw [hd.out]; exact hlt
          have ho := hX.out.rw _ (List.mem_cons_self ..)
          obtain ⟨b, hA, hbB, _, _, hRE⟩ := RE.of_own ho rfl (show d ≠ [] from fun e => by rw [e] at hkd; simp at hkd)
          simp only at hA
          subst hA
          have hk1 : (k : Int) < ((l5.length : Nat) : Int) := by omega
          obtain ⟨x0, x1, x2⟩ := hRE.at_ hkd
          have fz := hRE.fz (k * 3 + 1)
          have HM := Lib.hid (fun u' => hX.out.bump (b := b) hkd u')
          clear ho hRE
          generalize d[k].u = uu at *
          obtain ⟨u2, hu2⟩ : ∃ u2 : Nat, IntKind.u32.wrap ((uu : Int) + 1) = (u2 : Int) := ⟨(IntKind.u32.wrap ((uu : Int) + 1)).toNat, by simp [IntKind.wrap, IntKind.bits, IntKind.signed]; omega⟩
          have HM2 := Lib.hid (HM.out u2)
          clear HM hX
          go_wp2_with fail
          go_roundw
          case rel => exact ⟨k + 1, by omega, by go_num, _, Lib.hid (by rw [List.length_set]; exact hd.out), HM2⟩
          case measure => simp [intOf]; omega
        · obtain rfl : k = l5.length := by omega
          have Q6 := Lib.hid (hX.out.sub (rows' := []) fun r hr => by cases hr)
          have RP := Lib.hid (rpush15_any (A := none) (A2 := A) (c := 0) (c2 := c) (q := []) (l := l) (w := wr) (by simp) (by omega) (.inl rfl) (HS.out.below Q6.out.be))
          clear hX hd Q5 hlt hk
          go_wp2_with fail
          refine RP.out.mono ?_
          rintro e w6 ⟨v6, rfl, h6, hb6⟩
          obtain ⟨A6, c6, rfl⟩ := own_any h6
          have RF := Lib.hid (rflush15_any (c := c6) (w := w6) false (by have := hq0.out; omega) (SlAt.of_own encEv_len h6))
          have Q7 := Lib.hid (Q6.out.below hb6)
          clear h6 hb6 RP Q6
          go_wp2_with fail
          refine RF.out.mono ?_
          rintro e w7 ⟨v7, v8, rfl, h7, h8, hb7⟩
          obtain ⟨A7, c7, rfl⟩ := own_any h7
          obtain ⟨A8, c8, rfl⟩ := own_any h8
          have Q8 := Lib.hid (Q7.out.add (r := ⟨A8, c8, restE false (pushE [] l)⟩) hb7 h8)
          clear h7 h8 hb7 RF Q7
          have NP := Lib.hid (qpush_nil A c l (by omega) w7 (HS.out.below Q8.out.be))
          go_wp2_with fail
          refine NP.out.mono ?_
          rintro e w8 ⟨rfl, hb8⟩
          have Q9 := Lib.hid (Q8.out.below hb8)
          clear hb8 NP Q8
          go_wp2_with fail
          refine (AL.out _).mono ?_
          rintro e w9 ⟨rfl, hb9⟩
          have F9 := Lib.hid ((Q9.out.below hb9).flush true (by have := hq1.out; omega))
          clear hb9 AL Q9
          go_wp2_with fail
          refine F9.out.mono ?_
          rintro e wa ⟨⟨Aa, ca, la⟩, rfl, ea, qa⟩
          obtain rfl : la = restE false (pushE [] l) := by
            have h1 : la = _ := ea
            rw [h1]
            exact HGS.out
          have Qa := Lib.hid qa
          have hq1' := hq1.out
          have EQ := equalEv_any Aa A8 ca c8 (restE false (pushE [] l)) (restE false (pushE [] l)) (by omega) (by omega) wa (qa.rw _ (List.mem_cons_self ..)).sl (qa.rw _ (List.mem_cons_of_mem _ (List.mem_cons_self ..))).sl
          rw [decide_eq_true rfl] at EQ
          have EQ := Lib.hid EQ
          clear qa ea F9 hq1'
          generalize (restE false (pushE [] l)).length = rl at *
          go_wp2_with fail
          refine EQ.out.mono ?_
          rintro e wb ⟨rfl, hbb⟩
          have Qb := Lib.hid (Qa.out.below hbb)
          have C1 := Lib.hid (qlen_nil wb)
          clear hbb EQ Qa
          go_wp2_with fail
          refine C1.out.mono ?_
          rintro e wc ⟨rfl, hbc⟩
          have Qc := Lib.hid (Qb.out.below hbc)
          have C2 := Lib.hid (qflush_nil true wc)
          clear hbc C1 Qb
          go_wp2_with fail
          refine C2.out.mono ?_
          rintro e wd ⟨Ad, cd, rfl, hbd⟩
          have Qd := Lib.hid (Qc.out.below hbd)
          have C3 := Lib.hid (qclear_nil wd)
          clear hbd C2 Qc
          go_wp2_with fail
          refine C3.out.mono ?_
          rintro e we ⟨rfl, hbe⟩
          have Qe := Lib.hid (Qd.out.below hbe)
          have C4 := Lib.hid (qhas_nil 1 we)
          clear hbe C3 Qd
          go_wp2_with fail
          refine C4.out.mono ?_
          rintro e wf ⟨rfl, hbf⟩
          have C5 := Lib.hid ((Qe.out.below hbf).len2)
          clear hbf C4 Qe
          go_wp2_with fail
          refine C5.out.mono ?_
          rintro e wg ⟨rfl, qg⟩
          have HF := Lib.hid qg.be
          clear qg C5
          go_wp2_with fail
          go_ret
          exact ⟨rfl, HF.out⟩
theorem eventKeeps_law (A : Option Addr) (c : Nat) (l : List EvI) (hlm : l.length ≤ maxLen) (hok : ∀ x ∈ l, evOk x) (w : World) (hS : SlAt encEv 3 w A l) :
    Calls Try.prog 7 #[.slice A l.length c] w fun e w' => e = .returned (.bool true) ∧ Below w.heap.size w w' := by
  unfold maxLen at hlm
  by_cases h1 : l.length ≤ 100
  · exact keeps_main A c l h1 hok w hS
  · have h1i : (100 : Int) < (l.length : Int) := by omega
    have AL := Lib.hid (fun W => alive15_any W)
    clear h1 hS hok
    generalize l.length = n1 at *
    go_enter Try.func7, Try.ntmps7
    go_wp2_with fail
    refine (AL.out _).mono ?_
    rintro e w1 ⟨rfl, hb⟩
    go_wp2_with fail
    go_ret
    exact ⟨rfl, hb⟩
end Go.Proofs.Ytfmloifgngembaa
