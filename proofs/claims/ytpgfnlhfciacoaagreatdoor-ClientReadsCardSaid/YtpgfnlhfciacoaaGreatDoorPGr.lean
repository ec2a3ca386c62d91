import Derived.Test.YtpgfnlhfciacoaaGreatDoorPGo
import Derived.Test.YtpgfnlhfciacoaaGreatDoorPRules
set_option maxRecDepth 100000
set_option maxHeartbeats 2000000
open Go.Lib renaming hid → Hi
namespace Go.Proofs.YtpgfnlhfciacoaaGreatDoor
open Go.RowKit Go.Maps Go.Shelf
theorem Fin.mbox {ts r : List Tok} {x : List UInt8} (h : Fin ts) (hm : mboxO ts = some (x, r)) : Fin r := by
 rcases ts with _ | ⟨t, q⟩
 · cases hm
 · have hk : t.kind ≠ 0 ∧ q = r := by
    unfold mboxO at hm
    simp only at hm
    split at hm
    · rename_i h4
      split at hm
      · simp at hm; exact ⟨by omega, hm.2⟩
      · cases hm
    · split at hm
      · rename_i h5
        simp at hm
        exact ⟨by omega, hm.2⟩
      · cases hm
   obtain ⟨h1, rfl⟩ := hk
   exact h.tail h1
theorem Fin.set {ts r : List Tok} {x : List R} (h : Fin ts) (hm : setO ts = some (x, r)) : Fin r := by
 unfold setO at hm
 cases ht : YG 4 ts with
 | none => rw [ht] at hm; cases hm
 | some p =>
   obtain ⟨y, q⟩ := p
   rw [ht] at hm
   simp only [Option.bind_some] at hm
   split at hm
   · simp at hm
     obtain ⟨_, rfl⟩ := hm
     exact h.take (by decide) ht
   · cases hm
theorem wnames_mem : ∀ {p : List Tok} {ns : List (List UInt8)}, ZC p = some ns → ns.length ≤ p.length ∧ ∀ x ∈ ns, ∃ t ∈ p, t.kind = 4 ∧ x = t.text := by
 suffices h : ∀ (n : Nat) (p : List Tok), p.length ≤ n → ∀ ns, ZC p = some ns → ns.length ≤ p.length ∧ ∀ x ∈ ns, ∃ t ∈ p, t.kind = 4 ∧ x = t.text from fun {p ns} => h p.length p (Nat.le_refl _) ns
 intro n
 induction n with
 | zero =>
   intro p hp ns h
   obtain rfl : p = [] := List.length_eq_zero_iff.1 (by omega)
   simp [ZC] at h
 | succ n ih =>
   intro p hp ns h
   rcases p with _ | ⟨t, _ | ⟨s, r⟩⟩
   · simp [ZC] at h
   · simp [ZC] at h
     obtain ⟨h4, rfl⟩ := h
     exact ⟨by simp, fun x hx => ⟨t, by simp, h4, by simpa using hx⟩⟩
   · simp only [ZC] at h
     split at h
     · rename_i hh
       cases hr : ZC r with
       | none => rw [hr] at h; cases h
       | some ms =>
         rw [hr] at h
         simp at h
         subst h
         obtain ⟨i1, i2⟩ := ih r (by simp at hp; omega) ms hr
         refine ⟨by simp; omega, fun x hx => ?_⟩
         rcases List.mem_cons.1 hx with rfl | hx
         · exact ⟨t, by simp, hh.1, rfl⟩
         · obtain ⟨u, hu, h4, e⟩ := i2 x hx
           exact ⟨u, by simp [hu], h4, e⟩
     · cases h
theorem NmOk.of {ts p r : List Tok} {ns : List (List UInt8)} (h : Fin ts) (e : ts = p ++ r) (hp : ns.length ≤ p.length) (hm : ∀ x ∈ ns, ∃ t ∈ p, t.kind = 4 ∧ x = t.text) : NmOk ns := by
 refine ⟨?_, fun x hx => ?_⟩
 · have := h.len
   rw [e, List.length_append] at this
   omega
 · obtain ⟨t, ht, h4, rfl⟩ := hm x hx
   have := h.mem (t := t) (by rw [e]; simp [ht])
   exact ⟨this.2.1, (this.2.2 h4).1, (this.2.2 h4).2⟩
theorem words_ok {ts r : List Tok} {ns : List (List UInt8)} (h : Fin ts) (hw : QB ts = some (ns, r)) : NmOk ns ∧ Fin r := by
 obtain ⟨p, e, hp, hr, _⟩ := wordsO_some hw
 obtain ⟨h1, h2⟩ := wnames_mem hp
 refine ⟨.of h e h1 h2, ?_⟩
 rw [e] at h
 exact h.drop hr
theorem list_ok {ts r : List Tok} {ns : List (List UInt8)} (h : Fin ts) (hw : QF ts = some (ns, r)) : NmOk ns ∧ Fin r := by
 obtain ⟨m, e, hm⟩ := listO_some hw
 obtain ⟨o, c, q, rfl, ho, hc, hq⟩ := lnames_some hm
 have hr : r ≠ [] := by
  rintro rfl
  obtain ⟨l, t, hl, h0, _⟩ := h
  rw [e, List.append_nil, ← List.cons_append] at hl
  have := List.append_inj' hl rfl
  simp at this
  rw [this.2] at hc
  omega
 have hn : ns.length ≤ q.length ∧ ∀ x ∈ ns, ∃ t ∈ q, t.kind = 4 ∧ x = t.text := by
  split at hq
  · simp at hq; subst hq; simp
  · exact wnames_mem hq
 refine ⟨.of h e (by simp; omega) (fun x hx => ?_), ?_⟩
 · obtain ⟨t, ht, h4, hx⟩ := hn.2 x hx
   exact ⟨t, by simp [ht], h4, hx⟩
 · rw [e] at h
   exact h.drop hr
theorem noRest_any (bs : Nat) {tv sv dv : Value} {ts : List Tok} {c : Cmd} (w : World) (h : Ps bs w.heap.size tv ts c sv dv w) :
 Calls Tryz.prog 111 #[.pointer (some ⟨bs, 0, none⟩)] w (MPost bs (some (c, ts)) w) := by
 have HP := Hi h
 clear h
 go_enter Tryz.func111, Tryz.ntmps111
 go_wp2_with fail
 first | go_end0 | refine bodyPost_ret (results_none rfl _ _ _) rfl ?_
 exact .inl ⟨c, ts, tv, sv, dv, Hi rfl, rfl, HP, Hi (World.grownBy.refl _ _)⟩
theorem selectRest_any (bs : Nat) {tv sv dv : Value} {ts : List Tok} {c : Cmd} (w : World) (hf : Fin ts) (h : Ps bs w.heap.size tv ts c sv dv w) :
 Calls Tryz.prog 112 #[.pointer (some ⟨bs, 0, none⟩)] w (MPost bs (selO c ts) w) := by
 have T1 := Hi (take_any bs w.heap.size 1 (by decide) w hf h)
 have MB := Hi (fun tv ts W (hf : Fin ts) (h : Ps bs W.heap.size tv ts c sv dv W) => mailbox_any bs W hf h)
 have HF := Hi hf
 have S0 : Hid (selO c ts = (YG 1 ts).bind fun p => (mboxO p.2).map fun q => ({ c with mbox := q.1 }, q.2)) := Hi rfl
 generalize selO c ts = O at *
 clear h hf
 go_enter Tryz.func112, Tryz.ntmps112
 go_wp2_with fail
 refine T1.out.mono ?_
 rintro e w1 (⟨x, r, tv1, ho, rfl, hP, hG⟩ | ⟨ho, rfl, hG⟩)
 · have S1 : Hid (O = (mboxO r).map fun q => ({ c with mbox := q.1 }, q.2)) := Hi (by rw [S0.out, ho.out]; rfl)
   have M1 := Hi (MB.out _ _ w1 (HF.out.take (by decide) ho.out) hP.out.here)
   clear ho hP T1 MB S0
   go_wp2_with fail
   refine M1.out.mono ?_
   rintro e w2 (⟨c2, r2, tv2, sv2, dv2, ho2, rfl, hP2, hG2⟩ | ⟨ho2, rfl, hG2⟩)
   · go_wp2_with fail
     first | go_end0 | refine bodyPost_ret (results_none rfl _ _ _) rfl ?_
     exact .inl ⟨c2, r2, tv2, sv2, dv2, Hi (by rw [S1.out, ho2.out]), rfl, hP2, Hi (hG.out.trans hG2.out)⟩
   · exact ⟨rfl, .inr ⟨Hi (by rw [S1.out, ho2.out]), rfl, Hi (hG.out.trans hG2.out)⟩⟩
 · exact ⟨rfl, .inr ⟨Hi (by rw [S0.out, ho.out]; rfl), rfl, hG⟩⟩
theorem appendRest_any (bs : Nat) {tv sv dv : Value} {ts : List Tok} {c : Cmd} (w : World) (hf : Fin ts) (h : Ps bs w.heap.size tv ts c sv dv w) :
 Calls Tryz.prog 113 #[.pointer (some ⟨bs, 0, none⟩)] w (MPost bs (appO c ts) w) := by
 have T1 := Hi (take_any bs w.heap.size 1 (by decide) w hf h)
 have MB := Hi (fun tv ts W (hf : Fin ts) (h : Ps bs W.heap.size tv ts c sv dv W) => mailbox_any bs W hf h)
 have TK := Hi (fun k hk tv sv dv ts c W (hf : Fin ts) (h : Ps bs W.heap.size tv ts c sv dv W) => take_any bs W.heap.size k hk W hf h)
 have SE := Hi (fun k hk tv sv dv ts c W (hf : Fin ts) (h : Ps bs W.heap.size tv ts c sv dv W) => sees_any bs W.heap.size k hk W hf h)
 have LS := Hi (fun tv sv dv ts c (W : World) (hf : Fin ts) (h : Ps bs W.heap.size tv ts c sv dv W) => list_any bs W.heap.size W h.lt hf h)
 have FL := Hi (fun tv sv dv v base ts c ns (W : World) (hns : NmOk ns) (hO : W.ownsRow base 9 1 v ns.length (YF encS ns)) (h : Ps bs W.heap.size tv ts c sv dv W) => pflags_any bs base W hns hO h)
 have HF := Hi hf
 have S0 : Hid (appO c ts = (YG 1 ts).bind fun p => (mboxO p.2).bind fun q => (YG 1 q.2).bind fun z =>
  if YT 2 z.2 = true then (QF z.2).bind fun f => (ZE f.1).bind fun g => (YG 1 f.2).bind fun y => (YG 6 y.2).map fun d => ({ c with mbox := q.1, flags := g, data := d.1 }, d.2)
  else (YG 6 z.2).map fun d => ({ c with mbox := q.1, data := d.1 }, d.2)) := Hi rfl
 generalize appO c ts = O at *
 clear h hf
 go_enter Tryz.func113, Tryz.ntmps113
 go_wp2_with fail
 refine T1.out.mono ?_
 rintro e w1 (⟨x, r, tv1, ho, rfl, hP, hG⟩ | ⟨ho, rfl, hG⟩)
 · have S1 : Hid (O = (mboxO r).bind fun q => (YG 1 q.2).bind fun z =>
    if YT 2 z.2 = true then (QF z.2).bind fun f => (ZE f.1).bind fun g => (YG 1 f.2).bind fun y => (YG 6 y.2).map fun d => ({ c with mbox := q.1, flags := g, data := d.1 }, d.2)
    else (YG 6 z.2).map fun d => ({ c with mbox := q.1, data := d.1 }, d.2)) := Hi (by rw [S0.out, ho.out]; rfl)
   have HF1 := Hi (HF.out.take (by decide) ho.out)
   have M1 := Hi (MB.out _ _ w1 HF1.out hP.out.here)
   clear ho hP T1 MB S0
   go_wp2_with fail
   refine M1.out.mono ?_
   rintro e w2 (⟨c2, r2, tv2, sv2, dv2, ho2, rfl, hP2, hG2⟩ | ⟨ho2, rfl, hG2⟩)
   · obtain ⟨⟨mb, r2'⟩, hmb, he⟩ := Option.map_eq_some_iff.1 ho2.out
     simp only [Prod.mk.injEq] at he
     obtain ⟨rfl, rfl⟩ := he
     have S2 : Hid (O = (YG 1 r2').bind fun z =>
      if YT 2 z.2 = true then (QF z.2).bind fun f => (ZE f.1).bind fun g => (YG 1 f.2).bind fun y => (YG 6 y.2).map fun d => ({ c with mbox := mb, flags := g, data := d.1 }, d.2)
      else (YG 6 z.2).map fun d => ({ c with mbox := mb, data := d.1 }, d.2)) := Hi (by rw [S1.out, hmb]; rfl)
     have HF2 := Hi (HF1.out.mbox hmb)
     have T2 := Hi (TK.out 1 (by decide) _ _ _ _ _ w2 HF2.out hP2.out)
     have HG2 := Hi (hG.out.trans hG2.out)
     clear hmb ho2 hP2 M1 S1 hG hG2 HF1
     go_wp2_with fail
     refine T2.out.mono ?_
     rintro e w3 (⟨x3, r3, tv3, ho3, rfl, hP3, hG3⟩ | ⟨ho3, rfl, hG3⟩)
     · have S3 : Hid (O = if YT 2 r3 = true then (QF r3).bind fun f => (ZE f.1).bind fun g => (YG 1 f.2).bind fun y => (YG 6 y.2).map fun d => ({ c with mbox := mb, flags := g, data := d.1 }, d.2)
        else (YG 6 r3).map fun d => ({ c with mbox := mb, data := d.1 }, d.2)) := Hi (by rw [S2.out, ho3.out]; rfl)
       have HF3 := Hi (HF2.out.take (by decide) ho3.out)
       have HP3 := Hi hP3.out.here
       have HG3 := Hi (HG2.out.trans hG3.out)
       have E3 := SE.out 2 (by decide) _ _ _ _ _ w3 HF3.out HP3.out
       clear ho3 hP3 hG3 HG2 T2 S2 HF2
       cases hq : YT 2 r3 with
       | false =>
         rw [hq] at E3
         have E3 := Hi E3
         have S3 : Hid (O = (YG 6 r3).map fun d => ({ c with mbox := mb, data := d.1 }, d.2)) := Hi (by rw [S3.out, hq]; rfl)
         have T6 := Hi (TK.out 6 (by decide) _ _ _ _ _ w3 HF3.out HP3.out)
         clear hq HP3
         go_wp2_with fail
         refine E3.out.mono ?_
         rintro e w4 ⟨rfl, rfl⟩
         go_wp2_with fail
         refine T6.out.mono ?_
         rintro e w5 (⟨x5, r5, tv5, ho5, rfl, hP5, hG5⟩ | ⟨ho5, rfl, hG5⟩)
         · obtain ⟨cap, w6, hcv, hb6, hby, hle, hsz6, hblk⟩ := convB w5 ⟨x5.toArray⟩ x5.length (by show x5.toArray.size = _; simp)
           have hp6 := (hP5.out.grow hb6).here
           have f9 := Joins.unfrozen_of_block hp6.blk 9
           have c9 := hp6.cell 9 _ rfl
           have hbw := hP5.out.lt
           have hdx : SlX encB 1 bs w6.heap.size w6 (.slice (some ⟨w5.heap.size, 0, none⟩) x5.length cap) x5 := SlX.of_sl hby.sl hle (fun b off e => by injection e with e; injection e with e; omega)
           have HP7 := Hi (hp6.set_ 9 (.slice (some ⟨w5.heap.size, 0, none⟩) x5.length cap) (dv' := .slice (some ⟨w5.heap.size, 0, none⟩) x5.length cap) (c' := { c with mbox := mb, data := x5 }) rfl hp6.toks hp6.sets hdx hp6.snew (fun b off s n k e => by injection e with e _ _; injection e with e; injection e with e; omega))
           have HG7 := Hi ((HG3.out.trans (hG5.out.trans (YE hb6))).trans (YH (World.grownBy.refl w6 (some bs)) 9 (.slice (some ⟨w5.heap.size, 0, none⟩) x5.length cap)))
           have S5 : Hid (O = some ({ c with mbox := mb, data := x5 }, r5)) := Hi (by rw [S3.out, ho5.out]; rfl)
           clear hp6 hdx hP5 hG5 HG3 ho5 hby hblk hb6 T6 E3 S3
           go_wp2_with fail
           first | go_end0 | refine bodyPost_ret (results_none rfl _ _ _) rfl ?_
           exact .inl ⟨_, r5, tv5, sv2, _, S5, rfl, Hi HP7.out.here, HG7⟩
         · exact ⟨rfl, .inr ⟨Hi (by rw [S3.out, ho5.out]; rfl), rfl, Hi (HG3.out.trans hG5.out)⟩⟩
       | true =>
         rw [hq] at E3
         have E3 := Hi E3
         have S3 : Hid (O = (QF r3).bind fun f => (ZE f.1).bind fun g => (YG 1 f.2).bind fun y => (YG 6 y.2).map fun d => ({ c with mbox := mb, flags := g, data := d.1 }, d.2)) := Hi (by rw [S3.out, hq]; rfl)
         have L3 := Hi (LS.out _ _ _ _ _ w3 HF3.out HP3.out)
         clear hq HP3
         go_wp2_with fail
         refine E3.out.mono ?_
         rintro e w4 ⟨rfl, rfl⟩
         go_wp2_with fail
         refine L3.out.mono ?_
         rintro e w5 (⟨ns, r5, tv5, v5, ho5, rfl, hO5, hP5, hG5⟩ | ⟨ho5, rfl, hG5⟩)
         · obtain ⟨hnm, hf5⟩ := list_ok HF3.out ho5.out
           have HF5 := Hi hf5
           have S5 : Hid (O = (ZE ns).bind fun g => (YG 1 r5).bind fun y => (YG 6 y.2).map fun d => ({ c with mbox := mb, flags := g, data := d.1 }, d.2)) := Hi (by rw [S3.out, ho5.out]; rfl)
           have F5 := Hi (FL.out _ _ _ _ _ _ _ _ w5 hnm hO5.out hP5.out.here)
           have HG5 := Hi (HG3.out.trans hG5.out)
           clear hnm hf5 ho5 hP5 hG5 HG3 L3 S3 HF3 hO5
           go_wp2_with fail
           refine F5.out.mono ?_
           rintro e w6 (⟨c6, r6, tv6, sv6, dv6, ho6, rfl, hP6, hG6⟩ | ⟨ho6, rfl, hG6⟩)
           · obtain ⟨g, hg, he⟩ := Option.map_eq_some_iff.1 ho6.out
             simp only [Prod.mk.injEq] at he
             obtain ⟨rfl, rfl⟩ := he
             have S6 : Hid (O = (YG 1 r5).bind fun y => (YG 6 y.2).map fun d => ({ c with mbox := mb, flags := g, data := d.1 }, d.2)) := Hi (by rw [S5.out, hg]; rfl)
             have T6 := Hi (TK.out 1 (by decide) _ _ _ _ _ w6 HF5.out hP6.out)
             have HG6 := Hi (HG5.out.trans hG6.out)
             clear hg ho6 hP6 hG6 HG5 S5 F5
             go_wp2_with fail
             refine T6.out.mono ?_
             rintro e w7 (⟨x7, r7, tv7, ho7, rfl, hP7, hG7⟩ | ⟨ho7, rfl, hG7⟩)
             · have S7 : Hid (O = (YG 6 r7).map fun d => ({ c with mbox := mb, flags := g, data := d.1 }, d.2)) := Hi (by rw [S6.out, ho7.out]; rfl)
               have T7 := Hi (TK.out 6 (by decide) _ _ _ _ _ w7 (HF5.out.take (by decide) ho7.out) hP7.out.here)
               have HG7 := Hi (HG6.out.trans hG7.out)
               clear ho7 hP7 hG7 HG6 S6 T6
               go_wp2_with fail
               refine T7.out.mono ?_
               rintro e w5 (⟨x5, r5, tv5, ho5, rfl, hP5, hG5⟩ | ⟨ho5, rfl, hG5⟩)
               · obtain ⟨cap, w6, hcv, hb6, hby, hle, hsz6, hblk⟩ := convB w5 ⟨x5.toArray⟩ x5.length (by show x5.toArray.size = _; simp)
                 have hp6 := (hP5.out.grow hb6).here
                 have f9 := Joins.unfrozen_of_block hp6.blk 9
                 have c9 := hp6.cell 9 _ rfl
                 have hbw := hP5.out.lt
                 have hdx : SlX encB 1 bs w6.heap.size w6 (.slice (some ⟨w5.heap.size, 0, none⟩) x5.length cap) x5 := SlX.of_sl hby.sl hle (fun b off e => by injection e with e; injection e with e; omega)
                 have HP7 := Hi (hp6.set_ 9 (.slice (some ⟨w5.heap.size, 0, none⟩) x5.length cap) (dv' := .slice (some ⟨w5.heap.size, 0, none⟩) x5.length cap) (c' := { c with mbox := mb, flags := g, data := x5 }) rfl hp6.toks hp6.sets hdx hp6.snew (fun b off s n k e => by injection e with e _ _; injection e with e; injection e with e; omega))
                 have HG8 := Hi ((HG7.out.trans (hG5.out.trans (YE hb6))).trans (YH (World.grownBy.refl w6 (some bs)) 9 (.slice (some ⟨w5.heap.size, 0, none⟩) x5.length cap)))
                 have S8 : Hid (O = some ({ c with mbox := mb, flags := g, data := x5 }, r5)) := Hi (by rw [S7.out, ho5.out]; rfl)
                 clear hp6 hdx hP5 hG5 HG7 ho5 hby hblk hb6 T7 E3 S7
                 go_wp2_with fail
                 first | go_end0 | refine bodyPost_ret (results_none rfl _ _ _) rfl ?_
                 exact .inl ⟨_, r5, tv5, _, _, S8, rfl, Hi HP7.out.here, HG8⟩
               · exact ⟨rfl, .inr ⟨Hi (by rw [S7.out, ho5.out]; rfl), rfl, Hi (HG7.out.trans hG5.out)⟩⟩
             · exact ⟨rfl, .inr ⟨Hi (by rw [S6.out, ho7.out]; rfl), rfl, Hi (HG6.out.trans hG7.out)⟩⟩
           · exact ⟨rfl, .inr ⟨Hi (by rw [S5.out, Option.map_eq_none_iff.1 ho6.out]; rfl), rfl, Hi (HG5.out.trans hG6.out)⟩⟩
         · exact ⟨rfl, .inr ⟨Hi (by rw [S3.out, ho5.out]; rfl), rfl, Hi (HG3.out.trans hG5.out)⟩⟩
     · exact ⟨rfl, .inr ⟨Hi (by rw [S2.out, ho3.out]; rfl), rfl, Hi (HG2.out.trans hG3.out)⟩⟩
   · exact ⟨rfl, .inr ⟨Hi (by rw [S1.out, Option.map_eq_none_iff.1 ho2.out]; rfl), rfl, Hi (hG.out.trans hG2.out)⟩⟩
 · exact ⟨rfl, .inr ⟨Hi (by rw [S0.out, ho.out]; rfl), rfl, hG⟩⟩
theorem fetchRest_any (bs : Nat) {tv sv dv : Value} {ts : List Tok} {c : Cmd} (w : World) (hc0 : c.items = 0) (henv : ∀ W, w.grownBy W (some bs) → Env W) (hf : Fin ts) (h : Ps bs w.heap.size tv ts c sv dv w) :
 Calls Tryz.prog 114 #[.pointer (some ⟨bs, 0, none⟩)] w (MPost bs (fetO c ts) w) := by
 have T1 := Hi (take_any bs w.heap.size 1 (by decide) w hf h)
 have ST := Hi (fun tv ts W (hE : ∀ W', World.grownBy W W' (some bs) → Env W') (hf : Fin ts) (h : Ps bs W.heap.size tv ts c sv dv W) => set_any bs W hE hf h)
 have TK := Hi (fun k hk tv sv dv ts c W (hf : Fin ts) (h : Ps bs W.heap.size tv ts c sv dv W) => take_any bs W.heap.size k hk W hf h)
 have SE := Hi (fun k hk tv sv dv ts c W (hf : Fin ts) (h : Ps bs W.heap.size tv ts c sv dv W) => sees_any bs W.heap.size k hk W hf h)
 have LS := Hi (fun tv sv dv ts c (W : World) (hf : Fin ts) (h : Ps bs W.heap.size tv ts c sv dv W) => list_any bs W.heap.size W h.lt hf h)
 have IT := Hi (fun tv sv dv v base ts c ns (W : World) (hc : c.items = 0) (hb : bs < base) (hns : NmOk ns) (hO : W.ownsRow base 9 1 v ns.length (YF encS ns)) (h : Ps bs W.heap.size tv ts c sv dv W) => pitems_any bs base W hc hb hns hO h)
 have HF := Hi hf
 have HE := Hi henv
 have HC := Hi hc0
 have S0 : Hid (fetO c ts = (YG 1 ts).bind fun p => (setO p.2).bind fun q => (YG 1 q.2).bind fun z =>
  if YT 2 z.2 = true then (QF z.2).bind fun f => (itemsO f.1).map fun i => ({ c with set := q.1, items := i }, f.2)
  else (YG 4 z.2).bind fun d => (itemsO [d.1]).map fun i => ({ c with set := q.1, items := i }, d.2)) := Hi rfl
 generalize fetO c ts = O at *
 clear h hf henv hc0
 go_enter Tryz.func114, Tryz.ntmps114
 go_wp2_with fail
 refine T1.out.mono ?_
 rintro e w1 (⟨x, r, tv1, ho, rfl, hP, hG⟩ | ⟨ho, rfl, hG⟩)
 · have S1 : Hid (O = (setO r).bind fun q => (YG 1 q.2).bind fun z =>
    if YT 2 z.2 = true then (QF z.2).bind fun f => (itemsO f.1).map fun i => ({ c with set := q.1, items := i }, f.2)
    else (YG 4 z.2).bind fun d => (itemsO [d.1]).map fun i => ({ c with set := q.1, items := i }, d.2)) := Hi (by rw [S0.out, ho.out]; rfl)
   have HF1 := Hi (HF.out.take (by decide) ho.out)
   have M1 := Hi (ST.out _ _ w1 (fun W hW => HE.out W (hG.out.trans hW)) HF1.out hP.out.here)
   clear ho hP T1 ST S0
   go_wp2_with fail
   refine M1.out.mono ?_
   rintro e w2 (⟨c2, r2, tv2, sv2, dv2, ho2, rfl, hP2, hG2⟩ | ⟨ho2, rfl, hG2⟩)
   · obtain ⟨⟨mb, r2'⟩, hmb, he⟩ := Option.map_eq_some_iff.1 ho2.out
     simp only [Prod.mk.injEq] at he
     obtain ⟨rfl, rfl⟩ := he
     have S2 : Hid (O = (YG 1 r2').bind fun z =>
      if YT 2 z.2 = true then (QF z.2).bind fun f => (itemsO f.1).map fun i => ({ c with set := mb, items := i }, f.2)
      else (YG 4 z.2).bind fun d => (itemsO [d.1]).map fun i => ({ c with set := mb, items := i }, d.2)) := Hi (by rw [S1.out, hmb]; rfl)
     have HF2 := Hi (HF1.out.set hmb)
     have T2 := Hi (TK.out 1 (by decide) _ _ _ _ _ w2 HF2.out hP2.out)
     have HG2 := Hi (hG.out.trans hG2.out)
     clear hmb ho2 hP2 M1 S1 hG hG2 HF1
     go_wp2_with fail
     refine T2.out.mono ?_
     rintro e w3 (⟨x3, r3, tv3, ho3, rfl, hP3, hG3⟩ | ⟨ho3, rfl, hG3⟩)
     · have S3 : Hid (O = if YT 2 r3 = true then (QF r3).bind fun f => (itemsO f.1).map fun i => ({ c with set := mb, items := i }, f.2)
        else (YG 4 r3).bind fun d => (itemsO [d.1]).map fun i => ({ c with set := mb, items := i }, d.2)) := Hi (by rw [S2.out, ho3.out]; rfl)
       have HF3 := Hi (HF2.out.take (by decide) ho3.out)
       have HP3 := Hi hP3.out.here
       have HG3 := Hi (HG2.out.trans hG3.out)
       have E3 := SE.out 2 (by decide) _ _ _ _ _ w3 HF3.out HP3.out
       have hbw := hP3.out.lt
       clear ho3 hP3 hG3 HG2 T2 S2 HF2
       cases hq : YT 2 r3 with
       | false =>
         rw [hq] at E3
         have E3 := Hi E3
         have S3 : Hid (O = (YG 4 r3).bind fun d => (itemsO [d.1]).map fun i => ({ c with set := mb, items := i }, d.2)) := Hi (by rw [S3.out, hq]; rfl)
         have T6 := Hi (TK.out 4 (by decide) _ _ _ _ _ w3 HF3.out HP3.out)
         clear hq HP3
         go_wp2_with fail
         refine E3.out.mono ?_
         rintro e w4 ⟨rfl, rfl⟩
         go_wp2_with fail
         refine T6.out.mono ?_
         rintro e w5 (⟨x5, r5, tv5, ho5, rfl, hP5, hG5⟩ | ⟨ho5, rfl, hG5⟩)
         · have hb5 := hP5.out.lt
           have hsz : w3.heap.size ≤ w5.heap.size := hG5.out.size
           have hnm : NmOk [x5] := by
            obtain ⟨t, ht, h4, rfl⟩ := QE ho5.out
            have hm := HF3.out.mem (t := t) (by rw [ht]; simp)
            refine ⟨by simp, fun p hp => ?_⟩
            obtain rfl := List.mem_singleton.1 hp
            exact ⟨hm.2.1, (hm.2.2 h4).1, (hm.2.2 h4).2⟩
           have HP6 := Hi (hP5.out.grow (YB w5 (.cells #[.string ⟨x5.toArray⟩] 9)))
           have I6 := Hi (IT.out _ _ _ _ w5.heap.size _ { c with set := mb } [x5] (w5.alloc (.cells #[.string ⟨x5.toArray⟩] 9)) HC.out hb5 hnm (own_one (Nat.le_refl _) x5) HP6.out.here)
           have HG6 := Hi ((HG3.out.trans hG5.out).trans (YE (row := some bs) (YB w5 (.cells #[.string ⟨x5.toArray⟩] 9))))
           have S5 : Hid (O = (itemsO [x5]).map fun i => ({ c with set := mb, items := i }, r5)) := Hi (by rw [S3.out, ho5.out]; rfl)
           clear hnm ho5 hP5 hG5 HG3 S3 T6 E3 HP6
           go_wp2_with fail
           refine I6.out.mono ?_
           rintro e w6 (⟨c6, r6, tv6, sv6, dv6, ho6, rfl, hP6, hG6⟩ | ⟨ho6, rfl, hG6⟩)
           · go_wp2_with fail
             first | go_end0 | refine bodyPost_ret (results_none rfl _ _ _) rfl ?_
             exact .inl ⟨c6, r6, tv6, sv6, dv6, Hi (by rw [S5.out, ho6.out]), rfl, hP6, Hi (HG6.out.trans hG6.out)⟩
           · exact ⟨rfl, .inr ⟨Hi (by rw [S5.out, ho6.out]), rfl, Hi (HG6.out.trans hG6.out)⟩⟩
         · exact ⟨rfl, .inr ⟨Hi (by rw [S3.out, ho5.out]; rfl), rfl, Hi (HG3.out.trans hG5.out)⟩⟩
       | true =>
         rw [hq] at E3
         have E3 := Hi E3
         have S3 : Hid (O = (QF r3).bind fun f => (itemsO f.1).map fun i => ({ c with set := mb, items := i }, f.2)) := Hi (by rw [S3.out, hq]; rfl)
         have L3 := Hi (LS.out _ _ _ _ _ w3 HF3.out HP3.out)
         clear hq HP3
         go_wp2_with fail
         refine E3.out.mono ?_
         rintro e w4 ⟨rfl, rfl⟩
         go_wp2_with fail
         refine L3.out.mono ?_
         rintro e w5 (⟨ns, r5, tv5, v5, ho5, rfl, hO5, hP5, hG5⟩ | ⟨ho5, rfl, hG5⟩)
         · obtain ⟨hnm, hf5⟩ := list_ok HF3.out ho5.out
           have S5 : Hid (O = (itemsO ns).map fun i => ({ c with set := mb, items := i }, r5)) := Hi (by rw [S3.out, ho5.out]; rfl)
           have F5 := Hi (IT.out _ _ _ _ _ _ { c with set := mb } _ w5 HC.out hbw hnm hO5.out hP5.out.here)
           have HG5 := Hi (HG3.out.trans hG5.out)
           clear hnm hf5 ho5 hP5 hG5 HG3 L3 S3 HF3 hO5
           go_wp2_with fail
           refine F5.out.mono ?_
           rintro e w6 (⟨c6, r6, tv6, sv6, dv6, ho6, rfl, hP6, hG6⟩ | ⟨ho6, rfl, hG6⟩)
           · go_wp2_with fail
             first | go_end0 | refine bodyPost_ret (results_none rfl _ _ _) rfl ?_
             exact .inl ⟨c6, r6, tv6, sv6, dv6, Hi (by rw [S5.out, ho6.out]), rfl, hP6, Hi (HG5.out.trans hG6.out)⟩
           · exact ⟨rfl, .inr ⟨Hi (by rw [S5.out, ho6.out]), rfl, Hi (HG5.out.trans hG6.out)⟩⟩
         · exact ⟨rfl, .inr ⟨Hi (by rw [S3.out, ho5.out]; rfl), rfl, Hi (HG3.out.trans hG5.out)⟩⟩
     · exact ⟨rfl, .inr ⟨Hi (by rw [S2.out, ho3.out]; rfl), rfl, Hi (HG2.out.trans hG3.out)⟩⟩
   · exact ⟨rfl, .inr ⟨Hi (by rw [S1.out, Option.map_eq_none_iff.1 ho2.out]; rfl), rfl, Hi (hG.out.trans hG2.out)⟩⟩
 · exact ⟨rfl, .inr ⟨Hi (by rw [S0.out, ho.out]; rfl), rfl, hG⟩⟩
theorem storeRest_any (bs : Nat) {tv sv dv : Value} {ts : List Tok} {c : Cmd} (w : World) (henv : ∀ W, w.grownBy W (some bs) → Env W) (hf : Fin ts) (h : Ps bs w.heap.size tv ts c sv dv w) :
 Calls Tryz.prog 115 #[.pointer (some ⟨bs, 0, none⟩)] w (MPost bs (stoO c ts) w) := by
 have T1 := Hi (take_any bs w.heap.size 1 (by decide) w hf h)
 have ST := Hi (fun tv ts W (hE : ∀ W', World.grownBy W W' (some bs) → Env W') (hf : Fin ts) (h : Ps bs W.heap.size tv ts c sv dv W) => set_any bs W hE hf h)
 have TK := Hi (fun k hk tv sv dv ts c W (hf : Fin ts) (h : Ps bs W.heap.size tv ts c sv dv W) => take_any bs W.heap.size k hk W hf h)
 have SE := Hi (fun k hk tv sv dv ts c W (hf : Fin ts) (h : Ps bs W.heap.size tv ts c sv dv W) => sees_any bs W.heap.size k hk W hf h)
 have MO := Hi (fun tv sv dv ts c (W : World) (hf : Fin ts) (h : Ps bs W.heap.size tv ts c sv dv W) => mode_any bs W hf h)
 have LS := Hi (fun tv sv dv ts c (W : World) (hf : Fin ts) (h : Ps bs W.heap.size tv ts c sv dv W) => list_any bs W.heap.size W h.lt hf h)
 have WD := Hi (fun tv sv dv ts c (W : World) (hf : Fin ts) (h : Ps bs W.heap.size tv ts c sv dv W) => words_any bs W.heap.size W h.lt hf h)
 have FL := Hi (fun tv sv dv v base ts c ns (W : World) (hns : NmOk ns) (hO : W.ownsRow base 9 1 v ns.length (YF encS ns)) (h : Ps bs W.heap.size tv ts c sv dv W) => pflags_any bs base W hns hO h)
 have HF := Hi hf
 have HE := Hi henv
 have S0 : Hid (stoO c ts = (YG 1 ts).bind fun p => (setO p.2).bind fun q => (YG 1 q.2).bind fun z => (YG 4 z.2).bind fun m => (modeL m.1).bind fun mo => (YG 1 m.2).bind fun y =>
  if YT 2 y.2 = true then (QF y.2).bind fun f => (ZE f.1).map fun g => ({ c with set := q.1, mode := mo.1, silent := mo.2, flags := g }, f.2)
  else (QB y.2).bind fun f => (ZE f.1).map fun g => ({ c with set := q.1, mode := mo.1, silent := mo.2, flags := g }, f.2)) := Hi rfl
 generalize stoO c ts = O at *
 clear h hf henv
 go_enter Tryz.func115, Tryz.ntmps115
 go_wp2_with fail
 refine T1.out.mono ?_
 rintro e w1 (⟨x, r, tv1, ho, rfl, hP, hG⟩ | ⟨ho, rfl, hG⟩)
 · have S1 : Hid (O = (setO r).bind fun q => (YG 1 q.2).bind fun z => (YG 4 z.2).bind fun m => (modeL m.1).bind fun mo => (YG 1 m.2).bind fun y =>
    if YT 2 y.2 = true then (QF y.2).bind fun f => (ZE f.1).map fun g => ({ c with set := q.1, mode := mo.1, silent := mo.2, flags := g }, f.2)
    else (QB y.2).bind fun f => (ZE f.1).map fun g => ({ c with set := q.1, mode := mo.1, silent := mo.2, flags := g }, f.2)) := Hi (by rw [S0.out, ho.out]; rfl)
   have HF1 := Hi (HF.out.take (by decide) ho.out)
   have M1 := Hi (ST.out _ _ w1 (fun W hW => HE.out W (hG.out.trans hW)) HF1.out hP.out.here)
   clear ho hP T1 ST S0
   go_wp2_with fail
   refine M1.out.mono ?_
   rintro e w2 (⟨c2, r2, tv2, sv2, dv2, ho2, rfl, hP2, hG2⟩ | ⟨ho2, rfl, hG2⟩)
   · obtain ⟨⟨mb, r2'⟩, hmb, he⟩ := Option.map_eq_some_iff.1 ho2.out
     simp only [Prod.mk.injEq] at he
     obtain ⟨rfl, rfl⟩ := he
     have S2 : Hid (O = (YG 1 r2').bind fun z => (YG 4 z.2).bind fun m => (modeL m.1).bind fun mo => (YG 1 m.2).bind fun y =>
      if YT 2 y.2 = true then (QF y.2).bind fun f => (ZE f.1).map fun g => ({ c with set := mb, mode := mo.1, silent := mo.2, flags := g }, f.2)
      else (QB y.2).bind fun f => (ZE f.1).map fun g => ({ c with set := mb, mode := mo.1, silent := mo.2, flags := g }, f.2)) := Hi (by rw [S1.out, hmb]; rfl)
     have HF2 := Hi (HF1.out.set hmb)
     have T2 := Hi (TK.out 1 (by decide) _ _ _ _ _ w2 HF2.out hP2.out)
     have HG2 := Hi (hG.out.trans hG2.out)
     clear hmb ho2 hP2 M1 S1 hG hG2 HF1
     go_wp2_with fail
     refine T2.out.mono ?_
     rintro e w3 (⟨x3, r3, tv3, ho3, rfl, hP3, hG3⟩ | ⟨ho3, rfl, hG3⟩)
     · have S3 : Hid (O = (YG 4 r3).bind fun m => (modeL m.1).bind fun mo => (YG 1 m.2).bind fun y =>
        if YT 2 y.2 = true then (QF y.2).bind fun f => (ZE f.1).map fun g => ({ c with set := mb, mode := mo.1, silent := mo.2, flags := g }, f.2)
        else (QB y.2).bind fun f => (ZE f.1).map fun g => ({ c with set := mb, mode := mo.1, silent := mo.2, flags := g }, f.2)) := Hi (by rw [S2.out, ho3.out]; rfl)
       have HF3 := Hi (HF2.out.take (by decide) ho3.out)
       have M3 := Hi (MO.out _ _ _ _ _ w3 HF3.out hP3.out.here)
       have HG3 := Hi (HG2.out.trans hG3.out)
       clear ho3 hP3 hG3 HG2 T2 S2 HF2
       go_wp2_with fail
       refine M3.out.mono ?_
       rintro e w4 (⟨c4, r4, tv4, sv4, dv4, ho4, rfl, hP4, hG4⟩ | ⟨ho4, rfl, hG4⟩)
       · obtain ⟨⟨x4, r4'⟩, ht4, he4⟩ := Option.bind_eq_some_iff.1 ho4.out
         obtain ⟨⟨mo, si⟩, hmo, he⟩ := Option.map_eq_some_iff.1 he4
         simp only [Prod.mk.injEq] at he
         obtain ⟨rfl, rfl⟩ := he
         have S4 : Hid (O = (YG 1 r4').bind fun y =>
          if YT 2 y.2 = true then (QF y.2).bind fun f => (ZE f.1).map fun g => ({ c with set := mb, mode := mo, silent := si, flags := g }, f.2)
          else (QB y.2).bind fun f => (ZE f.1).map fun g => ({ c with set := mb, mode := mo, silent := si, flags := g }, f.2)) := Hi (by
          have hmo' : modeL x4 = some (mo, si) := hmo
          rw [S3.out, ht4, Option.bind_some, hmo']; rfl)
         have HF4 := Hi (HF3.out.take (by decide) ht4)
         have T4 := Hi (TK.out 1 (by decide) _ _ _ _ _ w4 HF4.out hP4.out)
         have HG4 := Hi (HG3.out.trans hG4.out)
         clear ho4 ht4 he4 hmo hP4 hG4 HG3 M3 S3 HF3
         go_wp2_with fail
         refine T4.out.mono ?_
         rintro e w5 (⟨x5, r5, tv5, ho5, rfl, hP5, hG5⟩ | ⟨ho5, rfl, hG5⟩)
         · have S5 : Hid (O = if YT 2 r5 = true then (QF r5).bind fun f => (ZE f.1).map fun g => ({ c with set := mb, mode := mo, silent := si, flags := g }, f.2)
            else (QB r5).bind fun f => (ZE f.1).map fun g => ({ c with set := mb, mode := mo, silent := si, flags := g }, f.2)) := Hi (by rw [S4.out, ho5.out]; rfl)
           have HF5 := Hi (HF4.out.take (by decide) ho5.out)
           have HP5 := Hi hP5.out.here
           have HG5 := Hi (HG4.out.trans hG5.out)
           have E5 := SE.out 2 (by decide) _ _ _ _ _ w5 HF5.out HP5.out
           clear ho5 hP5 hG5 HG4 T4 S4 HF4
           cases hq : YT 2 r5 with
           | false =>
             rw [hq] at E5
             have E5 := Hi E5
             have S5 : Hid (O = (QB r5).bind fun f => (ZE f.1).map fun g => ({ c with set := mb, mode := mo, silent := si, flags := g }, f.2)) := Hi (by rw [S5.out, hq]; rfl)
             have L5 := Hi (WD.out _ _ _ _ _ w5 HF5.out HP5.out)
             clear hq HP5
             go_wp2_with fail
             refine E5.out.mono ?_
             rintro e w6 ⟨rfl, rfl⟩
             go_wp2_with fail
             refine L5.out.mono ?_
             rintro e w6 (⟨ns, r6, tv6, v6, ho6, rfl, hO6, hP6, hG6⟩ | ⟨ho6, rfl, hG6⟩)
             · obtain ⟨hnm, _⟩ := words_ok HF5.out ho6.out
               have S6 : Hid (O = (ZE ns).map fun g => ({ c with set := mb, mode := mo, silent := si, flags := g }, r6)) := Hi (by rw [S5.out, ho6.out]; rfl)
               have F6 := Hi (FL.out _ _ _ _ _ _ _ _ w6 hnm hO6.out hP6.out.here)
               have HG6 := Hi (HG5.out.trans hG6.out)
               clear hnm ho6 hP6 hG6 HG5 L5 S5 HF5 hO6
               go_wp2_with fail
               refine F6.out.mono ?_
               rintro e w7 (⟨c7, r7, tv7, sv7, dv7, ho7, rfl, hP7, hG7⟩ | ⟨ho7, rfl, hG7⟩)
               · go_wp2_with fail
                 first | go_end0 | refine bodyPost_ret (results_none rfl _ _ _) rfl ?_
                 exact .inl ⟨c7, r7, tv7, sv7, dv7, Hi (by rw [S6.out, ho7.out]), rfl, hP7, Hi (HG6.out.trans hG7.out)⟩
               · exact ⟨rfl, .inr ⟨Hi (by rw [S6.out, ho7.out]), rfl, Hi (HG6.out.trans hG7.out)⟩⟩
             · exact ⟨rfl, .inr ⟨Hi (by rw [S5.out, ho6.out]; rfl), rfl, Hi (HG5.out.trans hG6.out)⟩⟩
           | true =>
             rw [hq] at E5
             have E5 := Hi E5
             have S5 : Hid (O = (QF r5).bind fun f => (ZE f.1).map fun g => ({ c with set := mb, mode := mo, silent := si, flags := g }, f.2)) := Hi (by rw [S5.out, hq]; rfl)
             have L5 := Hi (LS.out _ _ _ _ _ w5 HF5.out HP5.out)
             clear hq HP5
             go_wp2_with fail
             refine E5.out.mono ?_
             rintro e w6 ⟨rfl, rfl⟩
             go_wp2_with fail
             refine L5.out.mono ?_
             rintro e w6 (⟨ns, r6, tv6, v6, ho6, rfl, hO6, hP6, hG6⟩ | ⟨ho6, rfl, hG6⟩)
             · obtain ⟨hnm, _⟩ := list_ok HF5.out ho6.out
               have S6 : Hid (O = (ZE ns).map fun g => ({ c with set := mb, mode := mo, silent := si, flags := g }, r6)) := Hi (by rw [S5.out, ho6.out]; rfl)
               have F6 := Hi (FL.out _ _ _ _ _ _ _ _ w6 hnm hO6.out hP6.out.here)
               have HG6 := Hi (HG5.out.trans hG6.out)
               clear hnm ho6 hP6 hG6 HG5 L5 S5 HF5 hO6
               go_wp2_with fail
               refine F6.out.mono ?_
               rintro e w7 (⟨c7, r7, tv7, sv7, dv7, ho7, rfl, hP7, hG7⟩ | ⟨ho7, rfl, hG7⟩)
               · go_wp2_with fail
                 first | go_end0 | refine bodyPost_ret (results_none rfl _ _ _) rfl ?_
                 exact .inl ⟨c7, r7, tv7, sv7, dv7, Hi (by rw [S6.out, ho7.out]), rfl, hP7, Hi (HG6.out.trans hG7.out)⟩
               · exact ⟨rfl, .inr ⟨Hi (by rw [S6.out, ho7.out]), rfl, Hi (HG6.out.trans hG7.out)⟩⟩
             · exact ⟨rfl, .inr ⟨Hi (by rw [S5.out, ho6.out]; rfl), rfl, Hi (HG5.out.trans hG6.out)⟩⟩
         · exact ⟨rfl, .inr ⟨Hi (by rw [S4.out, ho5.out]; rfl), rfl, Hi (HG4.out.trans hG5.out)⟩⟩
       · refine ⟨rfl, .inr ⟨Hi ?_, rfl, Hi (HG3.out.trans hG4.out)⟩⟩
         rw [S3.out]
         cases ht : YG 4 r3 with
         | none => rfl
         | some p =>
           have := ho4.out
           rw [ht, Option.bind_some, Option.map_eq_none_iff] at this
           rw [Option.bind_some, this]
           rfl
     · exact ⟨rfl, .inr ⟨Hi (by rw [S2.out, ho3.out]; rfl), rfl, Hi (HG2.out.trans hG3.out)⟩⟩
   · exact ⟨rfl, .inr ⟨Hi (by rw [S1.out, Option.map_eq_none_iff.1 ho2.out]; rfl), rfl, Hi (hG.out.trans hG2.out)⟩⟩
 · exact ⟨rfl, .inr ⟨Hi (by rw [S0.out, ho.out]; rfl), rfl, hG⟩⟩
theorem rule_any (k bs : Nat) (hk : 1 ≤ k ∧ k ≤ 8) {tv sv dv : Value} {ts : List Tok} {c : Cmd} (w : World) (hc0 : c.items = 0) (henv : ∀ W, w.grownBy W (some bs) → Env W) (hf : Fin ts) (h : Ps bs w.heap.size tv ts c sv dv w) :
 Calls Tryz.prog (ruleF k) #[.pointer (some ⟨bs, 0, none⟩)] w (MPost bs (restC k c ts) w) := by
 unfold ruleF restC
 by_cases h4 : k ≤ 4
 · rw [if_pos h4, if_neg (by omega), if_neg (by omega), if_neg (by omega), if_neg (by omega)]
   exact noRest_any bs w h
 rw [if_neg h4]
 by_cases h5 : k = 5
 · rw [if_pos h5, if_pos h5]; exact selectRest_any bs w hf h
 rw [if_neg h5, if_neg h5]
 by_cases h6 : k = 6
 · rw [if_pos h6, if_pos h6]; exact appendRest_any bs w hf h
 rw [if_neg h6, if_neg h6]
 by_cases h7 : k = 7
 · rw [if_pos h7, if_pos h7]; exact fetchRest_any bs w hc0 henv hf h
 rw [if_neg h7, if_neg h7, if_pos (by omega)]
 exact storeRest_any bs w henv hf h
end Go.Proofs.YtpgfnlhfciacoaaGreatDoor
