import Derived.Test.YtpgfnlhfciacoaaGreatDoorPGn
import Derived.Test.YtpgfnlhfciacoaaGreatDoorPKe
import Derived.Test.YtpgfnlhfciacoaaGreatDoorPGl
set_option maxRecDepth 100000
set_option maxHeartbeats 2000000
open Go.Lib renaming hid → Hi
namespace Go.Proofs.YtpgfnlhfciacoaaGreatDoor
open Go.RowKit Go.Maps Go.Shelf
theorem mb1_any (n : Nat) (w : World) (h1 : n ≤ 255) :
 Calls Tryz.prog 179 #[.int .u8 n] w fun e w' => e = .returned (.bool (mbN n)) ∧ Below w.heap.size w w' := by
 have A := atom_any n w h1
 unfold mbN
 cases ha : atomN n with
 | true =>
   rw [ha] at A
   have A := Hi A
   go_enter Tryz.func179, Tryz.ntmps179
   go_wp2_with fail
   refine A.out.mono ?_
   rintro e w1 ⟨rfl, hb⟩
   go_wp2_with fail
   go_ret
   exact ⟨rfl, hb⟩
 | false =>
   rw [ha] at A
   have A := Hi A
   have R := Hi (show ((n : Int) == 93) = (false || n == 93) by rw [Bool.false_or, Bool.eq_iff_iff]; simp; omega)
   go_enter Tryz.func179, Tryz.ntmps179
   go_wp2_with fail
   refine A.out.mono ?_
   rintro e w1 ⟨rfl, hb⟩
   go_wp2_with fail
   go_ret
   exact ⟨YU R.out, hb⟩
theorem enters_mb1 (args : Array Value) (w : World) : (callFunc 179 args).run Tryz.prog w = .ok (.enter 179 args) w := by kernel_rfl
theorem allMb_any (x : List UInt8) (hx : x.length ≤ 1000000000) (w : World) :
 Calls Tryz.prog 66 #[.string ⟨x.toArray⟩, .func (Fn.func 179) #[] #[]] w fun e w' => e = .returned (.bool (allL mbN x)) ∧ Below w.heap.size w w' :=
 all_any 179 mbN (fun n w h => mb1_any n w h) enters_mb1 ⟨x.toArray⟩ (by show x.toArray.size ≤ _; simpa using hx) w
def MPost (bs : Nat) (o : Option (Cmd × List Tok)) (w : World) (e : Ending) (w' : World) : Prop :=
 (∃ c r tv sv dv, Hid (o = some (c, r)) ∧ e = .returned (.tuple #[]) ∧ Hid (Ps bs w'.heap.size tv r c sv dv w') ∧ Hid (w.grownBy w' (some bs))) ∨
 (Hid (o = none) ∧ e = .panicked syn ∧ Hid (w.grownBy w' (some bs)))
theorem mailbox_any (bs : Nat) {tv sv dv : Value} {ts : List Tok} {c : Cmd} (w : World) (hf : Fin ts) (h : Ps bs w.heap.size tv ts c sv dv w) :
 Calls Tryz.prog 152 #[.pointer (some ⟨bs, 0, none⟩)] w (MPost bs ((mboxO ts).map fun q => ({ c with mbox := q.1 }, q.2)) w) := by
 have NT := Hi (fun w1 => need_t w1)
 have NF := Hi (fun w1 => need_f w1)
 rcases ts with _ | ⟨t, r⟩
 · exact absurd rfl hf.ne
 have hm := hf.mem (t := t) (by simp)
 have hlen := hm.2.1
 have S4 := sees_any bs w.heap.size 4 (by decide) w hf h
 have S5 := sees_any bs w.heap.size 5 (by decide) w hf h
 -- the last part: the mailbox is not too long
 by_cases h4 : t.kind = 4
 · rw [show YT 4 (t :: r) = true by simp [YT, h4]] at S4
   have S4 := Hi S4
   have T4 := Hi (take_ok bs w.heap.size 4 (by decide) w hf h (x := t.text) (r := r) (by simp [YG, h4]))
   have AL := Hi (fun W => allMb_any t.text (by omega) W)
   have HS := Hi (fun W tv' (hP : Ps bs w.heap.size tv' r c sv dv W) => hP.set_ 3 (.string ⟨t.text.toArray⟩) (c' := { c with mbox := t.text }) rfl hP.toks hP.sets hP.dats hP.snew hP.dnew)
   have HM : Hid (mboxO (t :: r) = if allL mbN t.text = true then some (t.text, r) else none) := Hi (by
    have : t.text.length ≤ 65536 := by omega
    simp [mboxO, h4, this])
   have d1 : decide ((t.text.length : Int) ≤ 65536) = true := by simp; omega
   have d2 : decide (t.text.length ≤ 65536) = true := by simp; omega
   clear h hf hm S5 h4
   generalize t.text = x at *
   go_enter Tryz.func152, Tryz.ntmps152
   go_wp2_with fail
   refine S4.out.mono ?_
   rintro e w1 ⟨rfl, rfl⟩
   go_wp2_with fail
   refine T4.out.mono ?_
   rintro e w2 ⟨tv2, rfl, hP, hG⟩
   have c3 := hP.out.cell 3 _ rfl
   have f3 := Joins.unfrozen_of_block hP.out.blk 3
   have hP3 := HS.out _ _ hP.out
   have c3' := hP3.cell 3 _ rfl
   have HP3 := Hi hP3
   have HG3 := Hi (hG.out.trans (YH (World.grownBy.refl w2 (some bs)) 3 (.string ⟨x.toArray⟩)))
   clear hP3 hP hG
   go_wp2_with fail
   refine (AL.out _).mono ?_
   rintro e w3 ⟨rfl, hb3⟩
   have HP4 := Hi (HP3.out.grow hb3)
   have HG4 := Hi (HG3.out.trans (YE hb3))
   have c4 := HP4.out.cell 3 _ rfl
   clear hb3 HP3 HG3 c3 c3' f3
   cases hq : allL mbN x with
   | true =>
     have HM : Hid (mboxO (t :: r) = some (x, r)) := Hi (by rw [HM.out, if_pos hq])
     clear hq
     go_wp2_with fail
     refine (NT.out _).mono ?_
     rintro e w4 ⟨rfl, rfl⟩
     go_wp2_with fail
     refine (NT.out _).mono ?_
     rintro e w4 ⟨rfl, rfl⟩
     go_wp2_with fail
     first | go_end0 | refine bodyPost_ret (results_none rfl _ _ _) rfl ?_
     exact .inl ⟨_, r, tv2, sv, dv, Hi (by rw [HM.out]; rfl), rfl, Hi HP4.out.here, HG4⟩
   | false =>
     have HM : Hid (mboxO (t :: r) = none) := Hi (by rw [HM.out, if_neg (by rw [hq]; decide)])
     clear hq
     go_wp2_with fail
     refine (NF.out _).mono ?_
     rintro e w4 ⟨rfl, rfl⟩
     exact ⟨rfl, .inr ⟨Hi (by rw [HM.out]; rfl), rfl, HG4⟩⟩
 · rw [show YT 4 (t :: r) = false by simp [YT, h4]] at S4
   have S4 := Hi S4
   by_cases h5 : t.kind = 5
   · rw [show YT 5 (t :: r) = true by simp [YT, h5]] at S5
     have S5 := Hi S5
     have T5 := Hi (take_ok bs w.heap.size 5 (by decide) w hf h (x := t.text) (r := r) (by simp [YG, h5]))
     have HS := Hi (fun W tv' (hP : Ps bs w.heap.size tv' r c sv dv W) => hP.set_ 3 (.string ⟨t.text.toArray⟩) (c' := { c with mbox := t.text }) rfl hP.toks hP.sets hP.dats hP.snew hP.dnew)
     have HM : Hid (mboxO (t :: r) = some (t.text, r)) := Hi (by
      have : t.text.length ≤ 65536 := by omega
      simp [mboxO, h5, this])
     have d1 : decide ((t.text.length : Int) ≤ 65536) = true := by simp; omega
     have d2 : decide (t.text.length ≤ 65536) = true := by simp; omega
     clear h hf hm h4 h5
     generalize t.text = x at *
     go_enter Tryz.func152, Tryz.ntmps152
     go_wp2_with fail
     refine S4.out.mono ?_
     rintro e w1 ⟨rfl, rfl⟩
     go_wp2_with fail
     refine S5.out.mono ?_
     rintro e w1 ⟨rfl, rfl⟩
     go_wp2_with fail
     refine T5.out.mono ?_
     rintro e w2 ⟨tv2, rfl, hP, hG⟩
     have c3 := hP.out.cell 3 _ rfl
     have f3 := Joins.unfrozen_of_block hP.out.blk 3
     have hP3 := HS.out _ _ hP.out
     have c3' := hP3.cell 3 _ rfl
     have HP3 := Hi hP3
     have HG3 := Hi (hG.out.trans (YH (World.grownBy.refl w2 (some bs)) 3 (.string ⟨x.toArray⟩)))
     clear hP3 hP hG
     go_wp2_with fail
     refine (NT.out _).mono ?_
     rintro e w4 ⟨rfl, rfl⟩
     go_wp2_with fail
     first | go_end0 | refine bodyPost_ret (results_none rfl _ _ _) rfl ?_
     exact .inl ⟨_, r, tv2, sv, dv, Hi (by rw [HM.out]; rfl), rfl, Hi HP3.out.here, HG3⟩
   · rw [show YT 5 (t :: r) = false by simp [YT, h5]] at S5
     have S5 := Hi S5
     have T6 := Hi (take_any bs w.heap.size 6 (by decide) w hf h)
     have HS := Hi (fun W tv' x r' (hP : Ps bs w.heap.size tv' r' c sv dv W) => hP.set_ 3 (.string ⟨x.toArray⟩) (c' := { c with mbox := x }) rfl hP.toks hP.sets hP.dats hP.snew hP.dnew)
     have HM : Hid (mboxO (t :: r) = YG 6 (t :: r)) := Hi (by
      have : t.text.length ≤ 65536 := by omega
      simp [mboxO, YG, h4, h5, this])
     have HX : Hid (∀ x r', YG 6 (t :: r) = some (x, r') → x.length ≤ 9000) := Hi (fun x r' e => by
      obtain ⟨t', he, _, rfl⟩ := QE e
      simp at he
      rw [← he.1]
      exact hlen)
     clear h hf hm h4 h5 hlen
     go_enter Tryz.func152, Tryz.ntmps152
     go_wp2_with fail
     refine S4.out.mono ?_
     rintro e w1 ⟨rfl, rfl⟩
     go_wp2_with fail
     refine S5.out.mono ?_
     rintro e w1 ⟨rfl, rfl⟩
     go_wp2_with fail
     refine T6.out.mono ?_
     rintro e w2 (⟨x, r', tv2, ho, rfl, hP, hG⟩ | ⟨ho, rfl, hG⟩)
     · have hlx := HX.out x r' ho.out
       have d1 : decide ((x.length : Int) ≤ 65536) = true := by simp; omega
       have d2 : decide (x.length ≤ 65536) = true := by simp; omega
       have HM2 : Hid (mboxO (t :: r) = some (x, r')) := Hi (by rw [HM.out, ho.out])
       have c3 := hP.out.cell 3 _ rfl
       have f3 := Joins.unfrozen_of_block hP.out.blk 3
       have hP3 := HS.out _ _ x r' hP.out
       have c3' := hP3.cell 3 _ rfl
       have HP3 := Hi hP3
       have HG3 := Hi (hG.out.trans (YH (World.grownBy.refl w2 (some bs)) 3 (.string ⟨x.toArray⟩)))
       clear hP3 hP hG ho
       go_wp2_with fail
       refine (NT.out _).mono ?_
       rintro e w4 ⟨rfl, rfl⟩
       go_wp2_with fail
       first | go_end0 | refine bodyPost_ret (results_none rfl _ _ _) rfl ?_
       exact .inl ⟨_, r', tv2, sv, dv, Hi (by rw [HM2.out]; rfl), rfl, Hi HP3.out.here, HG3⟩
     · exact ⟨rfl, .inr ⟨Hi (by rw [HM.out, ho.out]; rfl), rfl, hG⟩⟩
theorem set_any (bs : Nat) {tv sv dv : Value} {ts : List Tok} {c : Cmd} (w : World) (henv : ∀ W, w.grownBy W (some bs) → Env W) (hf : Fin ts) (h : Ps bs w.heap.size tv ts c sv dv w) :
 Calls Tryz.prog 155 #[.pointer (some ⟨bs, 0, none⟩)] w (MPost bs ((setO ts).map fun q => ({ c with set := q.1 }, q.2)) w) := by
 have NT := Hi (fun w1 => need_t w1)
 have NF := Hi (fun w1 => need_f w1)
 have T4 := Hi (take_any bs w.heap.size 4 (by decide) w hf h)
 have hbw := h.lt
 have HE := Hi henv
 have HX : Hid (∀ x r', YG 4 ts = some (x, r') → x.length ≤ 9000) := Hi (fun x r' e => by
  obtain ⟨t', he, _, rfl⟩ := QE e
  exact (hf.mem (by rw [he]; simp)).2.1)
 clear h hf henv
 go_enter Tryz.func155, Tryz.ntmps155
 go_wp2_with fail
 refine T4.out.mono ?_
 rintro e w2 (⟨x, r', tv2, ho, rfl, hP, hG⟩ | ⟨ho, rfl, hG⟩)
 · have hlx := HX.out x r' ho.out
   have HS0 : Hid (setO ts = if (YP x).2 = true then some ((YP x).1, r') else none) := Hi (by unfold setO; rw [ho.out]; rfl)
   have PA := parse_any ⟨x.toArray⟩ (by show x.toArray.size ≤ _; simp; omega) w2 (HE.out w2 hG.out)
   have e0 : (ByteArray.mk x.toArray).data.toList = x := rfl
   rw [e0] at PA
   generalize YP x = pp at *
   have PA := Hi PA
   have hws : w.heap.size ≤ w2.heap.size := hG.out.size
   clear ho HE HX e0
   go_wp2_with fail
   refine PA.out.mono ?_
   rintro e w3 ⟨v, rfl, hO, hb⟩
   have HP3 := Hi (hP.out.grow hb)
   have HG3 := Hi (hG.out.trans (YE hb))
   have HO := Hi hO
   clear hP hG hb hO PA
   obtain ⟨pl, pb⟩ := pp
   cases pb with
   | false =>
     have HS0 : Hid (setO ts = none) := Hi (by rw [HS0.out]; rfl)
     go_wp2_with fail
     refine (NF.out _).mono ?_
     rintro e w4 ⟨rfl, rfl⟩
     exact ⟨rfl, .inr ⟨Hi (by rw [HS0.out]; rfl), rfl, HG3⟩⟩
   | true =>
     have HS0 : Hid (setO ts = some (pl, r')) := Hi (by rw [HS0.out]; rfl)
     obtain ⟨A', c', rfl⟩ := YV HO.out
     have hp := HP3.out.here
     have hsx : SlX encR 2 bs w3.heap.size w3 _ pl := SlX.of_own encR_len HO.out (by omega)
     have f4 := Joins.unfrozen_of_block HP3.out.blk 4
     have HP4 := Hi (hp.set_ 4 _ (sv' := .slice A' pl.length c') (c' := { c with set := pl }) rfl hp.toks hsx hp.dats (fun b off s n k e => by injection e with e _ _; subst e; have := (HO.out.lt b rfl).1; omega) hp.dnew)
     have HG4 := Hi (HG3.out.trans (YH (World.grownBy.refl w3 (some bs)) 4 (.slice A' pl.length c')))
     have c4 := hp.cell 4 _ rfl
     clear hp hsx HP3 HG3 HO
     go_wp2_with fail
     refine (NT.out _).mono ?_
     rintro e w4 ⟨rfl, rfl⟩
     go_wp2_with fail
     first | go_end0 | refine bodyPost_ret (results_none rfl _ _ _) rfl ?_
     exact .inl ⟨_, r', tv2, _, dv, Hi (by rw [HS0.out]; rfl), rfl, Hi HP4.out.here, HG4⟩
 · exact ⟨rfl, .inr ⟨Hi (by unfold setO; rw [ho.out]; rfl), rfl, hG⟩⟩
def flB : List UInt8 := [70, 76, 65, 71, 83]
def addB : List UInt8 := [43, 70, 76, 65, 71, 83]
def remB : List UInt8 := [45, 70, 76, 65, 71, 83]
def moD : DataW Unit := (((DataW.map []).put (.string flB) (intD 0)).put (.string addB) (intD 1)).put (.string remB) (intD 2)
theorem mo_at (l : List UInt8) (z : DataW Unit) : moD.atKey (.string l) z = match modeU l with | some m => intD m | none => z := by
 by_cases h0 : l = flB
 · subst h0; kernel_rfl
 by_cases h1 : l = addB
 · subst h1; kernel_rfl
 by_cases h2 : l = remB
 · subst h2; kernel_rfl
 have hm : modeU l = none := (if_neg h0).trans ((if_neg h1).trans (if_neg h2))
 rw [hm]
 have hn : ∀ {a b : List UInt8}, a ≠ b → Lit.string a ≠ .string b := fun h e => h (by injection e)
 unfold moD
 rw [atKey_put_other (hn h2), atKey_put_other (hn h1), atKey_put_other (hn h0)]
 rfl
theorem modeU_le {l : List UInt8} {m : Nat} (h : modeU l = some m) : m ≤ 2 := by
 unfold modeU at h
 repeat' split at h
 all_goals first | (simp at h; omega) | cases h
theorem look_mode {w : World} {b n : Nat} (hown : w.ownsMap Tryz.prog 9 (plainElem Tryz.prog 3) b n moD) (u : List UInt8) (hu : u.length ≤ 1000000000) :
 (Instr.lookup 199 (.map (some b)) (.string ⟨u.toArray⟩) true).run Tryz.prog w = .ok (.tuple #[.int .i64 ((modeU u).getD 0 : Nat), .bool (modeU u).isSome]) w := by
 obtain ⟨v, ps, hrun, hv⟩ := hown.look_ok keyS Tryz.underlying199 (zeroI w) (eI 0 (by decide)) (kS u hu)
 rw [mo_at] at hv
 rw [hrun]
 obtain ⟨x, rfl, hx, _⟩ := plainElem_int_inv Tryz.underlying3 hv
 simp only [Prod.mk.injEq] at hx
 have h1 := hx.1
 clear hrun hv hx hown
 have hh : Maps.has moD (.string u) = (modeU u).isSome := by
  cases hm : modeU u with
  | none => exact has_false_of_atKey (fun z => by rw [mo_at, hm])
  | some m => exact has_true_of_atKey (y := intD m) (fun z => by rw [mo_at, hm])
 rw [hh]
 cases hm : modeU u with
 | none =>
   rw [hm] at h1
   rw [intD_inj h1.symm]
   rfl
 | some m =>
   rw [hm] at h1
   rw [intD_inj h1.symm]
   rfl
theorem modeO_eq (l : List UInt8) : modeL l = (modeU (Lib.trimSuffix (upL l) silB)).map fun m => (m, Lib.hasSuffix (upL l) silB) := rfl
theorem mode_any (bs : Nat) {tv sv dv : Value} {ts : List Tok} {c : Cmd} (w : World) (hf : Fin ts) (h : Ps bs w.heap.size tv ts c sv dv w) :
 Calls Tryz.prog 157 #[.pointer (some ⟨bs, 0, none⟩)] w (MPost bs ((YG 4 ts).bind fun p => (modeL p.1).map fun mo => ({ c with mode := mo.1, silent := mo.2 }, p.2)) w) := by
 have NT := Hi (fun w1 => need_t w1)
 have NF := Hi (fun w1 => need_f w1)
 have hmm := @run_makeMap Tryz.prog
 have hb0 : Below w.heap.size w (w.alloc (.map #[] 0)) := YB _ _
 have HO := Hi (World.ownsMap_made (H := Unit) w Tryz.prog 9 (plainElem Tryz.prog 3))
 have T4 := Hi (fun W hP => take_any bs w.heap.size 4 (by decide) (tv := tv) (sv := sv) (dv := dv) (ts := ts) (c := c) W hf hP)
 have hbw := h.lt
 have HP0 := Hi h
 have HX : Hid (∀ x r', YG 4 ts = some (x, r') → x.length ≤ 9000) := Hi (fun x r' e => by
  obtain ⟨t', he, _, rfl⟩ := QE e
  exact (hf.mem (by rw [he]; simp)).2.1)
 clear h hf
 go_enter Tryz.func157, Tryz.ntmps157
 go_wp2_with (first
  | (refine YJ (H := Unit) _ rfl _ (.const (.string ⟨flB.toArray⟩)) _ 199 rfl 9 3 keyS Tryz.underlying199 (plainElem Tryz.prog 3) w.heap.size 0 _ rfl HO.out (by decide) (.string ⟨flB.toArray⟩) _ (.string flB) rfl rfl (kS flB (by decide)) _ [] (eI 0 (by decide)) ?_; intro w1 ho1 hg1; have HO1 := Hi ho1; have hb1 := hb0.grown hg1 (by simp) (fun j hj => by cases hj; exact Nat.le_refl _); clear ho1 hg1)
  | (refine YJ (H := Unit) _ rfl _ (.const (.string ⟨addB.toArray⟩)) _ 199 rfl 9 3 keyS Tryz.underlying199 (plainElem Tryz.prog 3) w.heap.size 1 _ rfl HO1.out (by decide) (.string ⟨addB.toArray⟩) _ (.string addB) rfl rfl (kS addB (by decide)) _ [] (eI 1 (by decide)) ?_; intro w2 ho2 hg2; have HO2 := Hi ho2; have hb2 := hb1.grown hg2 hb1.size (fun j hj => by cases hj; exact Nat.le_refl _); clear ho2 hg2)
  | (refine YJ (H := Unit) _ rfl _ (.const (.string ⟨remB.toArray⟩)) _ 199 rfl 9 3 keyS Tryz.underlying199 (plainElem Tryz.prog 3) w.heap.size 2 _ rfl HO2.out (by decide) (.string ⟨remB.toArray⟩) _ (.string remB) rfl rfl (kS remB (by decide)) _ [] (eI 2 (by decide)) ?_; intro w3 ho3 hg3; have HO3 := Hi ho3; have hb3 := hb2.grown hg3 hb2.size (fun j hj => by cases hj; exact Nat.le_refl _); clear ho3 hg3))
 have HP3 := Hi (HP0.out.grow hb3)
 have HB3 := Hi hb3
 clear hb0 hb1 hb2 hb3 HO HO1 HO2 HP0
 refine (T4.out _ HP3.out).mono ?_
 rintro e w4 (⟨x, r', tv2, ho, rfl, hP, hG⟩ | ⟨ho, rfl, hG⟩)
 · have hlx := HX.out x r' ho.out
   have HM0 : Hid (((YG 4 ts).bind fun p => (modeL p.1).map fun mo => ({ c with mode := mo.1, silent := mo.2 }, p.2)) = (modeU (Lib.trimSuffix (upL x) silB)).map fun m => ({ c with mode := m, silent := Lib.hasSuffix (upL x) silB }, r')) := Hi (by
    rw [ho.out, Option.bind_some, modeO_eq, Option.map_map]; rfl)
   have HOM := Hi (HO3.out.kept hG.out (by have := HO3.out.lt; intro e; injection e; omega))
   have UP := Hi (upper_any ⟨x.toArray⟩ (by show x.toArray.size ≤ _; simp; omega) w4)
   have e0 : (ByteArray.mk x.toArray).data.toList = x := rfl
   rw [e0] at UP
   have hul : (upL x).length ≤ 9000 := by rw [upL_length]; exact hlx
   generalize upL x = u at *
   have CS := fun W => Any.strings_CutSuffix Tryz.lays104 ⟨u.toArray⟩ ⟨#[46, 83, 73, 76, 69, 78, 84]⟩ W (by show u.toArray.size ≤ _; simp; omega)
   have E3 : Lib.trimSuffix (ByteArray.mk u.toArray).data.toList (ByteArray.mk #[46, 83, 73, 76, 69, 78, 84]).data.toList = Lib.trimSuffix u silB := rfl
   have E4 : Lib.hasSuffix (ByteArray.mk u.toArray).data.toList (ByteArray.mk #[46, 83, 73, 76, 69, 78, 84]).data.toList = Lib.hasSuffix u silB := rfl
   rw [E3, E4] at CS
   have htl : (Lib.trimSuffix u silB).length ≤ 9000 := by
    unfold Lib.trimSuffix
    split
    · rw [List.length_take]; omega
    · exact hul
   generalize Lib.trimSuffix u silB = y at *
   generalize Lib.hasSuffix u silB = q at *
   have CS := Hi CS
   have LK := Hi (fun (W : World) (hW : W.ownsMap Tryz.prog 9 (plainElem Tryz.prog 3) w.heap.size 3 moD) => look_mode hW y (by omega))
   have hm2 : ∀ m, modeU y = some m → m ≤ 2 := fun m => modeU_le
   generalize modeU y = mo at *
   have HM2 := Hi hm2
   clear ho HX E3 E4 hul htl hlx e0 T4 hm2
   go_wp2_with fail
   refine UP.out.mono ?_
   rintro e w5 ⟨rfl, hb5⟩
   have HP5 := Hi (hP.out.grow hb5)
   have HG5 := Hi (((YE HB3.out).trans hG.out).trans (YE hb5))
   have HO5 := Hi (HOM.out.kept (row := none) (YE hb5) (by simp))
   clear hP hG hb5 HOM UP HO3 HB3
   go_wp2_with fail
   refine (CS.out _).mono ?_
   rintro e w6 ⟨rfl, rfl⟩
   have lk := LK.out w6 HO5.out
   clear HO5 LK CS
   cases mo with
   | none =>
     simp only [Option.getD_none, Option.isSome_none] at lk
     go_wp2_with fail
     refine (NF.out _).mono ?_
     rintro e w7 ⟨rfl, rfl⟩
     exact ⟨rfl, .inr ⟨Hi (by rw [HM0.out]; rfl), rfl, HG5⟩⟩
   | some m =>
     simp only [Option.getD_some, Option.isSome_some] at lk
     have hp := HP5.out.here
     have f6 := Joins.unfrozen_of_block hp.blk 6
     have c6 := hp.cell 6 _ rfl
     have hp1 := hp.set_ 6 (.int .i64 (m : Int)) (c' := { c with mode := m }) rfl hp.toks hp.sets hp.dats hp.snew hp.dnew
     have f7 := Joins.unfrozen_of_block hp1.blk 7
     have c7 := hp1.cell 7 _ rfl
     have HP7 := Hi (hp1.set_ 7 (.bool q) (c' := { c with mode := m, silent := q }) rfl hp1.toks hp1.sets hp1.dats hp1.snew hp1.dnew)
     have HG7 := Hi (HG5.out.trans (YH (YH (World.grownBy.refl w6 (some bs)) 6 (.int .i64 (m : Int))) 7 (.bool q)))
     clear hp hp1 HP5 HG5
     go_wp2_with fail
     refine (NT.out _).mono ?_
     rintro e w7 ⟨rfl, rfl⟩
     go_wp2_with fail
     first | go_end0 | refine bodyPost_ret (results_none rfl _ _ _) rfl ?_
     exact .inl ⟨_, r', tv2, sv, dv, Hi (by rw [HM0.out]; rfl), rfl, Hi HP7.out.here, HG7⟩
 · exact ⟨rfl, .inr ⟨Hi (by rw [ho.out]; rfl), rfl, Hi ((YE HB3.out).trans hG.out)⟩⟩
def NmOk (ns : List (List UInt8)) : Prop := ns.length ≤ 9001 ∧ ∀ p ∈ ns, p.length ≤ 9000 ∧ p ≠ [] ∧ (32 : UInt8) ∉ p
theorem flags_list {ns : List (List UInt8)} (h : NmOk ns) : parseF (40 :: (spL ns ++ [41])) = ZE ns := by
 unfold ZE
 by_cases hn : ns = []
 · subst hn
   rw [if_pos rfl, spL_nil]
   rfl
 · rw [if_neg hn]
   obtain ⟨p, hp⟩ := List.exists_mem_of_ne_nil ns hn
   exact parse_list hn (fun x hx => (h.2 x hx).2.2) ⟨p, hp, (h.2 p hp).2.1⟩
theorem flagsO_lt {ns : List (List UInt8)} {g : Nat} (h : ZE ns = some g) : g < 32 := by
 unfold ZE at h
 split at h
 · simp at h; omega
 · unfold namesO at h
   split at h
   · simp at h; rw [← h]; exact orF_lt ns
   · cases h
theorem cat_list (sp : List UInt8) : (ByteArray.mk #[40] ++ ByteArray.mk sp.toArray ++ ByteArray.mk #[41]).data.toList = 40 :: (sp ++ [41]) := by
 simp [ByteArray.data_append]
theorem cat_size (sp : List UInt8) : (ByteArray.mk #[40] ++ ByteArray.mk sp.toArray ++ ByteArray.mk #[41]).size = sp.length + 2 := by
 rw [ByteArray.size_append, ByteArray.size_append]
 show 1 + sp.toArray.size + 1 = _
 simp; omega
theorem pflags_any (bs base : Nat) {tv sv dv v : Value} {ts : List Tok} {c : Cmd} {ns : List (List UInt8)} (w : World) (hns : NmOk ns) (hO : w.ownsRow base 9 1 v ns.length (YF encS ns)) (h : Ps bs w.heap.size tv ts c sv dv w) :
 Calls Tryz.prog 153 #[.pointer (some ⟨bs, 0, none⟩), v] w (MPost bs ((ZE ns).map fun g => ({ c with flags := g }, ts)) w) := by
 have NT := Hi (fun w1 => need_t w1)
 have NF := Hi (fun w1 => need_f w1)
 have hsl : (spL ns).length ≤ 90000000 := by
  have h1 := spL_len ns (fun p hp => (hns.2 p hp).1)
  have h2 := hns.1
  have : ns.length * 9001 ≤ 9001 * 9001 := Nat.mul_le_mul_right _ h2
  omega
 have JN := Hi (joinS_any ns v base w hO (by have := hns.1; omega) (by omega))
 have FP := fun W => fparse_any (ByteArray.mk #[40] ++ ByteArray.mk (spL ns).toArray ++ ByteArray.mk #[41]) (by rw [cat_size]; omega) W
 rw [cat_list, flags_list hns] at FP
 have HLT : Hid (∀ g, ZE ns = some g → g < 32) := Hi (fun g => flagsO_lt)
 generalize ZE ns = fo at *
 generalize spL ns = sp at *
 have FP := Hi FP
 have HP := Hi h
 obtain ⟨A', c', rfl⟩ := YV hO
 clear h hns hO
 go_enter Tryz.func153, Tryz.ntmps153
 go_wp2_with fail
 refine JN.out.mono ?_
 rintro e w1 ⟨rfl, hb1⟩
 have HP1 := Hi (HP.out.grow hb1)
 have HG1 := Hi (YE (row := some bs) hb1)
 clear hb1 HP JN
 go_wp2_with fail
 refine (FP.out _).mono ?_
 rintro e w2 ⟨rfl, hb2⟩
 have HP2 := Hi (HP1.out.grow hb2)
 have HG2 := Hi (HG1.out.trans (YE hb2))
 clear hb2 HP1 HG1 FP
 cases fo with
 | none =>
   simp only [Option.getD_none, Option.isSome_none]
   go_wp2_with fail
   refine (NF.out _).mono ?_
   rintro e w3 ⟨rfl, rfl⟩
   exact ⟨rfl, .inr ⟨Hi rfl, rfl, HG2⟩⟩
 | some g =>
   have hg := HLT.out g rfl
   simp only [Option.getD_some, Option.isSome_some]
   have hp := HP2.out.here
   have f8 := Joins.unfrozen_of_block hp.blk 8
   have c8 := hp.cell 8 _ rfl
   have HP3 := Hi (hp.set_ 8 (.int .u8 (g : Int)) (c' := { c with flags := g }) rfl hp.toks hp.sets hp.dats hp.snew hp.dnew)
   have HG3 := Hi (HG2.out.trans (YH (World.grownBy.refl w2 (some bs)) 8 (.int .u8 (g : Int))))
   clear hp HP2 HG2
   go_wp2_with fail
   refine (NT.out _).mono ?_
   rintro e w3 ⟨rfl, rfl⟩
   go_wp2_with fail
   first | go_end0 | refine bodyPost_ret (results_none rfl _ _ _) rfl ?_
   exact .inl ⟨_, ts, tv, sv, dv, Hi rfl, rfl, Hi HP3.out.here, HG3⟩
theorem orI_snoc (ps : List (List UInt8)) (p : List UInt8) : orI (ps ++ [p]) = orI ps ||| itemL p := by simp [orI]
theorem itemL_le (p : List UInt8) : itemL p ≤ 16 := itemU_le _
theorem pitems_any (bs base : Nat) {tv sv dv v : Value} {ts : List Tok} {c : Cmd} {ns : List (List UInt8)} (w : World) (hc0 : c.items = 0) (hbs : bs < base) (hns : NmOk ns) (hO : w.ownsRow base 9 1 v ns.length (YF encS ns)) (h : Ps bs w.heap.size tv ts c sv dv w) :
 Calls Tryz.prog 156 #[.pointer (some ⟨bs, 0, none⟩), v] w (MPost bs ((itemsO ns).map fun i => ({ c with items := i }, ts)) w) := by
 have NT := Hi (fun w1 => need_t w1)
 have NF := Hi (fun w1 => need_f w1)
 by_cases hnil : ns = []
 · subst hnil
   obtain ⟨A', c', rfl⟩ := YV hO
   clear h hns hO
   go_enter Tryz.func156, Tryz.ntmps156
   go_wp2_with fail
   refine (NF.out _).mono ?_
   rintro e w3 ⟨rfl, rfl⟩
   exact ⟨rfl, .inr ⟨Hi (by simp [itemsO]), rfl, Hi (World.grownBy.refl _ _)⟩⟩
 · have hpos : 0 < ns.length := List.length_pos_iff.2 hnil
   obtain ⟨g, cap, rfl, hg, hcap⟩ : ∃ g cap, v = .slice (some ⟨g, 0, none⟩) ns.length cap ∧ g < w.heap.size ∧ ns.length ≤ cap := by
    rcases hO.2 with ⟨rfl, h⟩ | ⟨g, cap, cur, rfl, h1, h2, h3, h4, h5, h6⟩
    · omega
    · exact ⟨g, cap, rfl, (Array.getElem?_eq_some_iff.1 h2).1, by first | exact h3 | exact h5 | omega⟩
   have hgb : bs ≠ g := by have := (hO.lt g rfl).1; omega
   have HC : Hid (∀ W, w.grownBy W (some bs) → ∀ k, (hk : k < ns.length) → W.cell? ⟨g, k, none⟩ = some (.string ⟨ns[k].toArray⟩)) := Hi (fun W hW k hk => by
    have h1 : (YF encS ns)[k]? = some (.string ⟨ns[k].toArray⟩) := by
     have := flatL_at encS_len ns k _ (List.getElem?_eq_getElem hk) 0 (.string ⟨ns[k].toArray⟩) (by simp [encS])
     simpa using this
    have := hO.cells (g := g) rfl k _ h1
    rw [Addr.add_lit, Nat.zero_add] at this
    unfold World.cell? at this ⊢
    rw [hW.block g hg (fun e => hgb (by injection e with e; exact e.symm))]
    exact this)
   have IT := Hi (fun (s : List UInt8) (hs : s.length ≤ 9000) W => item_any ⟨s.toArray⟩ (by show s.toArray.size ≤ _; simp; omega) W)
   obtain ⟨n, hn⟩ : ∃ n, ns.length = n := ⟨_, rfl⟩
   have HN := Hi hn
   have HNS := Hi hns
   have HP := Hi h
   have hn1 : n ≤ 9001 := by have := hns.1; omega
   have hnp : decide (0 < n) = true := by simp; omega
   rw [hn] at hpos ⊢
   have HI0 : Hid (Ps bs w.heap.size tv ts { c with items := orI (ns.take 0) } sv dv w) := Hi (by
    have e : ({ c with items := orI (ns.take 0) } : Cmd) = c := by
     rw [List.take_zero]
     show ({ c with items := 0 } : Cmd) = c
     rw [← hc0]
    rw [e]; exact h)
   clear h hns hn hO hcap hc0 hnil HP
   go_enter Tryz.func156, Tryz.ntmps156
   go_wp2_with fail
   refine (NT.out _).mono ?_
   rintro e w3 ⟨rfl, rfl⟩
   go_wp2_with fail
   go_loopw [14] (fun i wr => ∃ k : Nat, k ≤ n ∧ i = .int .i64 k ∧ Hid (((ns.take k).all fun p => itemL p != 0) = true) ∧ Hid (Ps bs w.heap.size tv ts { c with items := orI (ns.take k) } sv dv wr) ∧ Hid (w.grownBy wr (some bs))) (fun i _ => n - (intOf i).toNat)
   case atStart => exact ⟨0, Nat.zero_le _, rfl, Hi (by simp), HI0, Hi (World.grownBy.refl _ _)⟩
   case round =>
    obtain ⟨k, hk, rfl, hA, hP, hG⟩ := hrel
    clear HI0
    by_cases hlt : k < n
    · have hkl : k < ns.length := by rw [HN.out]; exact hlt
      have ck := HC.out wr hG.out k hkl
      have I1 : Calls Tryz.prog 183 #[.string ⟨ns[k].toArray⟩] wr fun e w' => e = .returned (.tuple #[.int .i64 (itemL ns[k] : Nat), .bool (decide (itemL ns[k] ≠ 0))]) ∧ Below wr.heap.size wr w' := IT.out ns[k] (HNS.out.2 _ (List.getElem_mem hkl)).1 wr
      have htk : ns.take (k + 1) = ns.take k ++ [ns[k]] := List.take_succ_eq_append_getElem hkl
      have hor : orI (ns.take (k + 1)) = orI (ns.take k) ||| itemL ns[k] := by rw [htk, orI_snoc]
      have hall : ((ns.take (k + 1)).all fun p => itemL p != 0) = (itemL ns[k] != 0) := by rw [htk, List.all_append, hA.out]; simp
      have HBAD : Hid (itemL ns[k] = 0 → itemsO ns = none) := Hi (fun h0 => by
       unfold itemsO
       rw [if_neg]
       rintro ⟨_, h⟩
       have := List.all_eq_true.1 h ns[k] (List.getElem_mem hkl)
       rw [h0] at this
       simp at this)
      have hil := itemL_le ns[k]
      have hol := orI_lt (ns.take k)
      generalize itemL ns[k] = it at *
      generalize ns[k] = nm at *
      have HOR := Hi hor
      have HALL := Hi hall
      have I1 := Hi I1
      clear htk hor hall hkl
      cases hz : decide (it ≠ 0) with
      | false =>
        have h0 : it = 0 := by simpa using hz
        have HB := Hi (HBAD.out h0)
        rw [hz] at I1
        clear h0 hz
        go_wp2_with fail
        refine I1.out.mono ?_
        rintro e w4 ⟨rfl, hb4⟩
        go_wp2_with fail
        refine (NF.out _).mono ?_
        rintro e w5 ⟨rfl, rfl⟩
        exact ⟨rfl, .inr ⟨Hi (by rw [HB.out]; rfl), rfl, Hi (hG.out.trans (YE hb4))⟩⟩
      | true =>
        have h0 : it ≠ 0 := by simpa using hz
        have hor2 : bits BinOp.or IntKind.i64 ((orI (ns.take k) : Nat) : Int) (it : Int) = ((orI (ns.take (k + 1)) : Nat) : Int) := by rw [i64_or_nat _ _ (by omega) (by omega), HOR.out]
        have HA2 : Hid (((ns.take (k + 1)).all fun p => itemL p != 0) = true) := Hi (by rw [HALL.out]; simpa using h0)
        have HST := Hi (fun W (hp : Ps bs w.heap.size tv ts { c with items := orI (ns.take k) } sv dv W) => hp.set_ 5 (.int .i64 ((orI (ns.take (k + 1)) : Nat) : Int)) (c' := { c with items := orI (ns.take (k + 1)) }) rfl hp.toks hp.sets hp.dats hp.snew hp.dnew)
        generalize orI (ns.take k) = o1 at *
        generalize ho2 : orI (ns.take (k + 1)) = o2 at *
        have HO2 := Hi ho2
        clear ho2
        rw [hz] at I1
        clear h0 hz HBAD HALL HOR hA
        go_wp2_with fail
        refine I1.out.mono ?_
        rintro e w4 ⟨rfl, hb4⟩
        have hp4 := hP.out.grow hb4
        have f5 := Joins.unfrozen_of_block hp4.blk 5
        have c5 := hp4.cell 5 _ rfl
        have HP5 := Hi (HST.out w4 hp4)
        have HG5 := Hi ((hG.out.trans (YE hb4)).trans (YH (World.grownBy.refl w4 (some bs)) 5 (.int .i64 (o2 : Int))))
        clear hp4 hb4 hP hG HST I1 ck
        go_wp2_with fail
        refine (NT.out _).mono ?_
        rintro e w5 ⟨rfl, rfl⟩
        go_wp2_with fail
        go_roundw
        case rel => exact ⟨k + 1, by omega, by go_num, HA2, by rw [HO2.out]; exact HP5, HG5⟩
        case measure => simp [intOf]; omega
    · obtain rfl : k = n := by omega
      have HIT : Hid (itemsO ns = some (orI (ns.take k))) := Hi (by
       have h1 := hA.out
       rw [← HN.out, List.take_length] at h1
       rw [← HN.out, List.take_length]
       unfold itemsO
       rw [if_pos ⟨fun e => by have := HN.out; rw [e] at this; simp at this; omega, h1⟩])
      go_wp2_with fail
      first | go_end0 | refine bodyPost_ret (results_none rfl _ _ _) rfl ?_
      exact .inl ⟨_, ts, tv, sv, dv, Hi (by rw [HIT.out]; rfl), rfl, Hi hP.out.here, hG⟩
end Go.Proofs.YtpgfnlhfciacoaaGreatDoor
