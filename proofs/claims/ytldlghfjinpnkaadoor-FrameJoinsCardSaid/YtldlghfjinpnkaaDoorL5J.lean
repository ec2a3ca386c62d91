/- The law FrameJoins, its walk. -/
import Derived.Test.YtldlghfjinpnkaaDoorAlive5
import Derived.Test.YtldlghfjinpnkaaDoorConcatB
namespace Go.Proofs.YtldlghfjinpnkaaDoor
open Go.RowKit

theorem EnvB.step {w w' : World} (h : EnvB w.heap.size w) (hb : Below w.heap.size w w') : EnvB w'.heap.size w' := (h.below hb).up hb.size

/-- append whose guard holds, where its run is known. -/
theorem wpList_append_want {P : Program} (w : World) {ops : Array Oper} {rest : List Oper} {o : Oper} {a : Act} {Q : Exit → Act → World → Prop} (hw : Region.wanted o (yielded ops a.tmps) = true) (s x : Operand) (t : TypeId)
    (ho : o.op = .call { callee := .builtin .append, args := #[s, x], argTypes := #[t, t] }) (v u : Value) (hs : a.eval s = v) (hx : a.eval x = u) {v' : Value} {w' : World}
    (hr : (Builtin.append_ #[t, t] o.type #[v, u]).run P w = .ok v' w') (h : wpList P ops Q rest (a.put o.dst v') w') : wpList P ops Q (o :: rest) a w :=
  wpList_step fun K hK => by
    rw [if_pos hw]
    exact Lib.wp_append_run_sl w s x t ho v u hs hx hr (hK _ _ h)

set_option maxRecDepth 100000 in
set_option maxHeartbeats 4000000 in
theorem frameJoins_any (A0 : Option Addr) (c0 : Nat) (l0 : List UInt8) (hl0 : l0.length ≤ maxLen) (A1 : Option Addr) (c1 : Nat) (l1 : List UInt8) (hl1 : l1.length ≤ maxLen) (W : World) (henv : EnvB W.heap.size W) (hS0 : ByAt W.heap.size W A0 c0 l0) (hS1 : ByAt W.heap.size W A1 c1 l1) :
    Calls Tryd.prog 4 #[.slice A0 l0.length c0, .slice A1 l1.length c1] W fun e W' => e = .returned (.bool true) ∧ Below W.heap.size W W' := by
  have AL := Lib.hid (fun (X : World) (hX : Below W.heap.size W X) => alive5_any X (henv.step hX))
  have H0 := Lib.hid hS0
  have H1 := Lib.hid hS1
  have HE := Lib.hid henv
  unfold maxLen at hl0 hl1
  clear hS0 hS1 henv
  by_cases g0 : 1500 < l0.length
  · have e0 : decide (1500 < l0.length) = true := by simpa using g0
    have e1 : decide ((1500 : Int) < (l0.length : Int)) = true := by simp; omega
    have AL0 := Lib.hid (AL.out W (Below.refl _ _))
    clear AL H0 H1 HE
    generalize l0.length = n0 at *
    generalize l1.length = n1 at *
    go_enter Tryd.func4, Tryd.ntmps4
    go_wp2_with fail
    refine AL0.out.mono ?_
    rintro e w1 ⟨rfl, hb⟩
    go_wp2_with fail
    go_ret
    exact ⟨rfl, hb⟩
  · have e0 : decide (1500 < l0.length) = false := by simpa using g0
    have e1 : decide ((1500 : Int) < (l0.length : Int)) = false := by simp; omega
    by_cases g1 : 1500 < l1.length
    · have e2 : decide (1500 < l1.length) = true := by simpa using g1
      have e3 : decide ((1500 : Int) < (l1.length : Int)) = true := by simp; omega
      have AL0 := Lib.hid (AL.out W (Below.refl _ _))
      clear AL H0 H1 HE
      generalize l0.length = n0 at *
      generalize l1.length = n1 at *
      go_enter Tryd.func4, Tryd.ntmps4
      go_wp2_with fail
      refine AL0.out.mono ?_
      rintro e w1 ⟨rfl, hb⟩
      go_wp2_with fail
      go_ret
      exact ⟨rfl, hb⟩
    · have e2 : decide (1500 < l1.length) = false := by simpa using g1
      have e3 : decide ((1500 : Int) < (l1.length : Int)) = false := by simp; omega
      have S0 := Lib.hid (refSplit_any _ c0 l0.length A0 l0 rfl (by omega) W H0.out)
      have S1 := Lib.hid (fun (X : World) (hX : Below W.heap.size W X) => refSplit_any _ c1 l1.length A1 l1 rfl (by omega) X (H1.out.below hX))
      have CC := Lib.hid (fun (g : Nat) (X : World) (hX : Below W.heap.size W X) (h0 : X.cell? ⟨g, 0, none⟩ = some (.slice A0 l0.length c0)) (h1 : X.cell? ⟨g, 1, none⟩ = some (.slice A1 l1.length c1)) (hg : g < X.heap.size) => concat2_any g A0 A1 c0 c1 l0 l1 (by omega) (by omega) X h0 h1 hg (H0.out.below hX).here (H1.out.below hX).here)
      have SP := Lib.hid (fun (X : World) (hX : Below W.heap.size W X) (A' : Option Addr) (c' : Nat) (h : ByAt X.heap.size X A' c' (l0 ++ l1)) => split_any _ c' (l0 ++ l1).length A' (l0 ++ l1) rfl (by rw [List.length_append]; omega) (short_of (by rw [List.length_append]; omega)) X (HE.out.step hX) h)
      have HL0 := Lib.hid g0
      have HL1 := Lib.hid g1
      obtain ⟨n0, hn0⟩ : ∃ n0, l0.length = n0 := ⟨_, rfl⟩
      obtain ⟨n1, hn1⟩ : ∃ n1, l1.length = n1 := ⟨_, rfl⟩
      rw [hn0] at S0 CC e0 e1 g0 ⊢
      rw [hn1] at S1 CC e2 e3 g1 ⊢
      have HN0 := Lib.hid hn0
      have HN1 := Lib.hid hn1
      clear hn0 hn1 hl0 hl1 H0 H1 HE g0 g1
      go_enter Tryd.func4, Tryd.ntmps4
      go_wp2_with fail
      refine S0.out.mono ?_
      rintro e w1 ⟨v, vs, fs, R, k, rfl, ho, hf, hb, hr, hd⟩
      have HB1 := Lib.hid hb
      have HO1 := Lib.hid ho
      have HF1 := Lib.hid hf
      have HR1 := Lib.hid hr
      have HD1 := Lib.hid hd
      obtain ⟨Av, cv, hv⟩ := own_any ho
      subst hv
      clear hb ho hf hr hd S0
      by_cases hR : 0 < R.length
      · have e4 : decide (0 < R.length) = true := by simpa using hR
        have e5 : decide ((0 : Int) < (R.length : Int)) = true := by simp; omega
        have AL1 := Lib.hid (AL.out w1 HB1.out)
        clear AL CC SP S1
        have hR2 : (R.length : Int) ≤ 1000000 := by
          have := HR1.out.len.2.1
          have := HN0.out
          have := HL0.out
          omega
        generalize R.length = nr at *
        go_wp2_with fail
        refine AL1.out.mono ?_
        rintro e w2 ⟨rfl, hb⟩
        have HB2 := Lib.hid (below_next HB1.out hb)
        clear hb
        go_wp2_with fail
        go_ret
        exact ⟨rfl, HB2.out⟩
      · obtain rfl : R = [] := List.eq_nil_of_length_eq_zero (by omega)
        have S1 := Lib.hid (S1.out w1 HB1.out)
        clear hR
        go_wp2_with fail
        refine S1.out.mono ?_
        rintro e w2 ⟨v2, vs2, fs2, R2, k2, rfl, ho2, hf2, hb2, hr2, hd2⟩
        have HB2 := Lib.hid (below_next HB1.out hb2)
        obtain ⟨Av2, cv2, hv2⟩ := own_any ho2
        subst hv2
        have HO2 := Lib.hid (own_below HO1.out hb2)
        have HF2 := Lib.hid (HF1.out.keeps (keeps_below hb2))
        have HQ2 := Lib.hid (FsAt.of_own ho2 hf2)
        have HR2 := Lib.hid (HR1.out.two hr2)
        have HD2 := Lib.hid hd2
        have hb3 := below_next HB2.out (below_al w2 (.cells #[.slice A0 n0 c0, .slice A1 n1 c1] 26))
        have CC := Lib.hid (CC.out _ _ hb3 (row_cell w2 #[.slice A0 n0 c0, .slice A1 n1 c1] 26 (0, 0) 0) (row_cell w2 #[.slice A0 n0 c0, .slice A1 n1 c1] 26 (0, 0) 1) (by simp))
        have HB3 := Lib.hid hb3
        have hRl : R2.length ≤ 1500 := by
          have := hr2.len.2.1
          have := HN1.out
          have := HL1.out
          omega
        have hc1 : fs.length ≤ 1500 := by
          have := HR1.out.len.1
          have := HN0.out
          have := HL0.out
          omega
        have hc2 : fs2.length ≤ 1500 := by
          have := hr2.len.1
          have := HN1.out
          have := HL1.out
          omega
        have HFL := Lib.hid hf2.len
        have HF22 := Lib.hid hf2
        have HO22 := Lib.hid ho2
        clear hb2 ho2 hf2 hr2 hd2 hb3 S1 HO1 HF1
        rw [← HFL.out]
        go_wp2_with fail
        refine CC.out.mono ?_
        rintro e w3 ⟨A', c', rfl, hA3, hb3⟩
        have HB4 := Lib.hid (below_next HB3.out hb3)
        have hb24 := below_next (below_al w2 (.cells #[.slice A0 n0 c0, .slice A1 n1 c1] 26)) hb3
        have SP := Lib.hid (SP.out w3 HB4.out A' c' hA3)
        have HB24 := Lib.hid hb24
        clear CC hb3 hA3 hb24 HB3
        obtain ⟨nl, hnl⟩ : ∃ nl, (l0 ++ l1).length = nl := ⟨_, rfl⟩
        rw [hnl] at SP ⊢
        clear hnl
        go_wp2_with fail
        refine SP.out.mono ?_
        rintro e w4 hp
        obtain ⟨v4, vs4, he, ho4, hf4, hb4⟩ := split_is hp HR2.out HD2.out
        subst he
        obtain ⟨Av4, cv4, hv4⟩ := own_any ho4
        subst hv4
        have HB5 := Lib.hid (below_next HB4.out hb4)
        have AL5 := Lib.hid (AL.out w4 HB5.out)
        have HO4 := Lib.hid ho4
        have HF4 := Lib.hid hf4
        have HB25 := Lib.hid (below_next HB24.out hb4)
        clear hp ho4 hf4 hb4 SP HB4 HB24 AL
        obtain ⟨n4, hn4⟩ : ∃ n4, (fs ++ fs2).length = n4 := ⟨_, rfl⟩
        rw [hn4]
        have HN4 := Lib.hid hn4
        clear hn4
        go_wp2_with fail
        refine AL5.out.mono ?_
        rintro e w5 ⟨rfl, hb5⟩
        have HB6 := Lib.hid (below_next HB5.out hb5)
        have hb26 := below_next HB25.out hb5
        have HB26 := Lib.hid hb26
        have HO45 := Lib.hid (own_below HO4.out hb5)
        have HF45 := Lib.hid (HF4.out.keeps (keeps_below hb5))
        have hO5 := own_below HO2.out hb26
        have HO5 := Lib.hid hO5
        have HS5 := Lib.hid (HQ2.out.sl.below hb26)
        have HF5 := Lib.hid (HF2.out.keeps (keeps_below hb26))
        have hzz := HB6.out.size
        have hvs2 : vs2.length ≤ 1500 := by have := HFL.out; omega
        obtain ⟨i0, hi, hz0, hz1, hz2⟩ := info_parts infoF5
        clear hb5 hb26 hO5 AL5 HB5 HB25
        obtain ⟨v6, w6, hr6, hv6, hg6⟩ := append_sl (P := Tryd.prog) w5 W.heap.size 30 30 51 i0 _ 32 Tryd.underlying30 hi hz0 hz1 hz2 rfl (by decide) _ fs.length (flatL enc2 vs) HO5.out Av2 vs2 cv2 enc2_len HS5.out (one_flat2 HF22.out) (by simp only [maxLen]; omega) (by omega) hzz
        have hw6 : w6.ownsRow W.heap.size 51 2 v6 (fs.length + vs2.length) (flatL enc2 vs ++ flatL enc2 vs2) := hv6
        have hadd := rs_add (by decide) (HO2.out) HF2.out HB2.out HB2.out.size HB26.out (HF22.out.keeps (keeps_below HB26.out)) HFL.out hw6 hg6
        obtain ⟨q1, q2, q3⟩ := hadd
        have hkt : KeepsT 5 w5 w6 := keeps_row HO5.out (by decide) hg6
        have hkt4 : KeepsT 42 w5 w6 := keeps_row HO5.out (by decide) hg6
        obtain ⟨A6, c6, hA6⟩ := own_any hw6
        subst hA6
        have HQ6 := Lib.hid (FsAt.of_own q1 q2)
        have HQ46 := Lib.hid (show FsAt w6 Av4 vs4 (fs ++ fs2) from FsAt.of_own (hkt4.own HO45.out) (HF45.out.keeps hkt))
        have HR6 := Lib.hid hr6
        have HB7 := Lib.hid (q3 : Below W.heap.size W w6)
        have hsum : (fs ++ fs2).length = fs.length + vs2.length := by rw [List.length_append, HFL.out]
        have SM := Lib.hid (same_any (fs ++ fs2) n4 HN4.out (by rw [← HN4.out, hsum]; omega) (fun f hf => by
          have h1 := HR2.out.len.2.2 f hf
          rw [List.length_append] at h1
          have := HN0.out
          have := HN1.out
          have := HL0.out
          have := HL1.out
          omega) w6 Av4 A6 cv4 c6 vs4 (vs ++ vs2) HQ46.out HQ6.out)
        have hnn : fs.length + vs2.length = n4 := by rw [← hsum]; exact HN4.out
        rw [hnn] at HR6
        clear hr6 hv6 hg6 hw6 q1 q2 q3 hkt hkt4 hsum hnn
        go_wp2_with (at_builtin; refine wpList_append_want _ rfl (.tmp 44) (.tmp 45) 30 rfl _ _ rfl rfl HR6.out ?_)
        refine SM.out.mono ?_
        rintro e w7 ⟨rfl, hb7⟩
        have HB8 := Lib.hid (HB7.out.trans (hb7.mono HB7.out.size))
        clear hb7 SM
        go_wp2_with fail
        go_ret
        exact ⟨rfl, HB8.out⟩
end Go.Proofs.YtldlghfjinpnkaaDoor
