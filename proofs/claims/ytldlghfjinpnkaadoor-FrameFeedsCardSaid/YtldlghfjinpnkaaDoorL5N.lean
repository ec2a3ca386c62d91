/- The law FrameNil, its walk. -/
import Derived.Test.YtldlghfjinpnkaaDoorDrain
namespace Go.Proofs.YtldlghfjinpnkaaDoor
open Go.RowKit

theorem EnvB.step {w w' : World} (h : EnvB w.heap.size w) (hb : Below w.heap.size w w') : EnvB w'.heap.size w' := (h.below hb).up hb.size
theorem grown_below {B r : Nat} {w a b : World} (h : Below B w a) (hg : a.grownBy b (some r)) (hB : B ≤ a.heap.size) (hr : B ≤ r) : Below B w b := h.grown hg hB (fun k hk => by have := Option.some.inj hk; omega)

/-- The address of a cut of frames. -/
def offF (A : Option Addr) (c m : Nat) : Option Addr := if c = m then A else A.map (·.add (m * 2))
theorem sizeF (w : World) : (sizeOf (Tryd.prog.elem 30)).run Tryd.prog w = .ok 2 w := by kernel_rfl
theorem undF : Tryd.prog.underlying 30 = some (.slice (Tryd.prog.elem 30)) := by kernel_rfl
theorem sliceF_l (A : Option Addr) (n c m : Nat) (h1 : m ≤ n) (X : World) :
    (Instr.slice 30 (.slice A n c) (some (.int .i64 (m : Int))) none none).run Tryd.prog X = .ok (.slice (offF A c m) (n - m) (c - m)) X := by
  rw [run_slice_l X _ A n c undF .i64 m (by omega) (by omega), sizeF]
  rfl
theorem sliceAtF_eq (x : Value) (lo hi mx : Option Value) (W : World) : (Instr.sliceAt 30 x lo hi mx).run Tryd.prog W = (Instr.slice 30 x lo hi mx).run Tryd.prog W := run_sliceAt_slice W _ _ _ _ _ undF
theorem FrsAt.drop {P : Nat → Prop} {w : World} {vs : List (Int × Value)} {fs : List Fr} (h : FrsAt P w vs fs) (m : Nat) : FrsAt P w (vs.drop m) (fs.drop m) := by
  induction m generalizing vs fs with
  | zero => exact h
  | succ m ih =>
    cases h with
    | nil => exact .nil
    | cons _ h2 => exact ih h2
theorem own_capF {w : World} {base : Nat} {e : TypeId} {size n c : Nat} {A : Option Addr} {xs : List Value} (h : w.ownsRow base e size (.slice A n c) n xs) : n ≤ c := by
  rcases h.2 with ⟨h1, h2⟩ | ⟨g, cap, cur, h1, _, _, h4, _⟩
  · omega
  · injection h1 with _ _ h3
    omega
/-- The frames behind the first ones. -/
theorem FsAt.drop {w : World} {A : Option Addr} {vs : List (Int × Value)} {fs : List Fr} (h : FsAt w A vs fs) (c m : Nat) (hc : fs.length ≤ c) : FsAt w (offF A c m) (vs.drop m) (fs.drop m) := by
  refine ⟨?_, h.frs.drop m⟩
  have hl := h.frs.len
  by_cases hm : fs.length ≤ m
  · exact .inl (List.drop_eq_nil_of_le (by omega))
  · rcases h.sl with h0 | ⟨b, off, rfl, hb, hcl⟩
    · rw [h0] at hl
      simp at hl
      omega
    · refine .inr ⟨b, off + m * 2, ?_, hb, fun j x hj i v hi => ?_⟩
      · unfold offF
        rw [if_neg (by omega)]
        simp [Addr.add]
      · rw [List.getElem?_drop] at hj
        have := hcl (m + j) x hj i v hi
        rw [← this]
        congr 2
        rw [Nat.add_mul]
        omega
theorem Spl.row {B bs g r k : Nat} {R : List UInt8} {w w' : World} (h : Spl B bs g R k w) (hk : w.grownBy w' (some r)) (h1 : r ≠ bs) (h2 : ∀ cs fr, w.heap[g]? = some (.cells cs 5 fr) → g ≠ r) (hB : B ≤ r) : Spl B bs g R k w' := by
  obtain ⟨lo, hi, env, A, c, hb, st⟩ := h
  refine ⟨lo, Nat.le_trans hi hk.size, env.grown hk hB hi, A, c, ?_, ?_⟩
  · rcases hb.lies with ⟨h0, h3⟩ | ⟨off, cs, hA, hh, _, _⟩
    · exact ⟨hb.le, hb.cap, .inl ⟨h0, h3⟩⟩
    · exact hb.grown hk (fun e => h2 _ _ hh (Option.some.inj e))
  · rcases st with ⟨a, h3, h4⟩ | ⟨ln, h4⟩
    · exact .inl ⟨a, h3, h4.grown hk (fun e => h1 (Option.some.inj e).symm)⟩
    · exact .inr ⟨ln, h4.grown hk (fun e => h1 (Option.some.inj e).symm)⟩

/-- Behind the first call of Next. -/
def MidN (W : World) (g : Nat) (l0 : List UInt8) (w : World) : Prop :=
  ∃ pre R' k', Spl W.heap.size W.heap.size g R' k' w ∧ Runs l0 0 pre R' k' ∧ pre.length ≤ 1 ∧ (pre = [] → Done R' k') ∧ Below W.heap.size W w ∧ W.heap.size < w.heap.size

/-- What Next gave: its data lie apart from the splitter's memory. -/
theorem nx_mid {W w2 w3 : World} {g m c : Nat} {l0 : List UInt8} {x : Int} {A : Option Addr} {b : Bool} (hq : NxRes W.heap.size W.heap.size g l0 0 w2 x (.slice A m c) b w3) (h2 : Spl W.heap.size W.heap.size g l0 0 w2) :
    ∃ g9 d, BRow g9 w3 A c d ∧ d.length = m ∧ w2.heap.size ≤ g9 ∧ (∀ cs fr, w3.heap[g]? = some (.cells cs 5 fr) → g ≠ g9) ∧
      ∃ pre R' k', Spl W.heap.size W.heap.size g R' k' w3 ∧ Runs l0 0 pre R' k' ∧ pre.length ≤ 1 ∧ (pre = [] → Done R' k') := by
  rcases hq with ⟨f, R', k', h1, _, _, ⟨A', c', g', h4, h5, h6⟩, h7, h8⟩ | ⟨h1, _, h4, _, h5, h6⟩
  · injection h4 with e1 e2 e3
    subst e1 e2 e3
    have hg : g < w2.heap.size := by
      obtain ⟨_, _, _, A2, c2, hb2, _⟩ := h2
      have hl := stepF_lt h1
      rcases hb2.lies with ⟨_, h0⟩ | ⟨off, cs, _, hh, _⟩
      · have := hb2.le
        omega
      · exact (Array.getElem?_eq_some_iff.1 hh).1
    exact ⟨g', f.data, h5, rfl, h6, fun _ _ _ => by omega, [f], R', k', h7, .cons h1 (.nil _ _), by simp, fun h => by cases h⟩
  · injection h4 with e1 e2 e3
    subst e1 e2 e3
    refine ⟨w3.heap.size + 5, [], BRow.nil _ _, rfl, by have := h6.size; omega, fun cs fr hh => ?_, [], l0, 0, h5, .nil _ _, by simp, fun _ => h1⟩
    have := (Array.getElem?_eq_some_iff.1 hh).1
    omega

set_option maxRecDepth 100000 in
set_option maxHeartbeats 4000000 in
theorem frameNil_any (A0 : Option Addr) (c0 : Nat) (l0 : List UInt8) (hl0 : l0.length ≤ maxLen) (W : World) (henv : EnvB W.heap.size W) (hS0 : ByAt W.heap.size W A0 c0 l0) :
    Calls Tryd.prog 7 #[.slice A0 l0.length c0] W fun e W' => e = .returned (.bool true) ∧ Below W.heap.size W W' := by
  have AL := Lib.hid (fun (X : World) (hX : Below W.heap.size W X) => alive5_any X (henv.step hX))
  have H0 := Lib.hid hS0
  have HE := Lib.hid henv
  unfold maxLen at hl0
  clear hS0 henv
  by_cases g0 : 1000 < l0.length
  · have e0 : decide (1000 < l0.length) = true := by simpa using g0
    have e1 : decide ((1000 : Int) < (l0.length : Int)) = true := by simp; omega
    have AL0 := Lib.hid (AL.out W (Below.refl _ _))
    clear AL H0 HE
    generalize l0.length = n0 at *
    go_enter Tryd.func7, Tryd.ntmps7
    go_wp2_with fail
    refine AL0.out.mono ?_
    rintro e w1 ⟨rfl, hb⟩
    go_wp2_with fail
    go_ret
    exact ⟨rfl, hb⟩
  · have e0 : decide (1000 < l0.length) = false := by simpa using g0
    have e1 : decide ((1000 : Int) < (l0.length : Int)) = false := by simp; omega
    have hl : l0.length ≤ 1000 := by omega
    have NW := Lib.hid (new_any W.heap.size W (Nat.le_refl _) HE.out)
    have FD := Lib.hid (fun (w1 : World) (h : Spl W.heap.size W.heap.size (W.heap.size + 1) [] 0 w1) (hb : Below W.heap.size W w1) (hz : W.heap.size < w1.heap.size) => feed_any W.heap.size W.heap.size (W.heap.size + 1) [] 0 l0 l0.length rfl (by simp; omega) w1 h hz w1.heap.size c0 A0 (H0.out.below hb |>.mono hb.size))
    have NX := Lib.hid (fun (g : Nat) (w : World) (h : Spl W.heap.size W.heap.size g l0 0 w) (hb : W.heap.size < w.heap.size) => next_any W.heap.size W.heap.size g l0 0 (by omega) w h hb (fun _ => by omega))
    have RS := Lib.hid (fun (X : World) (hX : Below W.heap.size W X) => refSplit_any _ c0 l0.length A0 l0 rfl (by omega) X (H0.out.below hX))
    have HL := Lib.hid hl
    obtain ⟨n0, hn0⟩ : ∃ n0, l0.length = n0 := ⟨_, rfl⟩
    rw [hn0] at FD RS e0 e1 g0 ⊢
    have hn1 : n0 ≤ 1000 := by omega
    have HN0 := Lib.hid hn0
    clear hn0 hl0 hl g0 H0 HE
    go_enter Tryd.func7, Tryd.ntmps7
    go_wp2_with fail
    refine NW.out.mono ?_
    rintro e w1 ⟨rfl, hs1, hb1, hz1⟩
    have FD := Lib.hid (FD.out w1 hs1 hb1 hz1)
    have HB1 := Lib.hid hb1
    clear hs1 hb1 NW
    go_wp2_with fail
    refine FD.out.mono ?_
    rintro e w2 ⟨rfl, g, w1', hg, hs2, hg1, hg2⟩
    have hz2 : W.heap.size < w2.heap.size := Nat.lt_of_lt_of_le hz1 (Nat.le_trans hg1.size hg2.size)
    have HB2 := Lib.hid (grown_below (grown_below HB1.out hg1 HB1.out.size (by omega)) hg2 (Nat.le_trans HB1.out.size hg1.size) (Nat.le_refl _))
    rw [List.nil_append] at hs2
    have NX := Lib.hid (NX.out g w2 hs2 hz2)
    have HS2 := Lib.hid hs2
    clear hs2 hg hg1 hg2 FD HB1
    go_wp2_with fail
    refine NX.out.mono ?_
    rintro e w3 hp
    obtain ⟨x, A, m, c, b, he, hq⟩ := hp.form
    clear hp
    subst he
    obtain ⟨g9, d, hbr, hdm, hg9, hgn, hmid⟩ := nx_mid hq HS2.out
    have hgr := NxRes.grown hq
    have HB3 := Lib.hid (grown_below HB2.out hgr HB2.out.size (Nat.le_refl _))
    have HBR := Lib.hid hbr
    have HDM := Lib.hid hdm
    have HGN := Lib.hid hgn
    have HMID := Lib.hid hmid
    have hz3 : w2.heap.size ≤ w3.heap.size := hgr.size
    have hm9 : m ≤ 1000000 := by
      rcases hq with ⟨f, R', k', h1, _, _, ⟨_, _, _, h4, _, _⟩, _⟩ | ⟨_, _, h4, _⟩
      · have := (stepF_lt h1).2.2.2
        injection h4 with _ e2 _
        have := HL.out
        omega
      · injection h4 with _ e2 _
        omega
    have hw9 : W.heap.size ≤ w2.heap.size := by omega
    have hbs9 : g9 ≠ W.heap.size := by omega
    have hBA := below_al w3 (.cells #[.int .i64 x, .slice A m c] 42)
    have hfb : (w3.alloc (.cells #[.int .i64 x, .slice A m c] 42)).heap[w3.heap.size]? = some (.cells #[.int .i64 x, .slice A m c] 42 (0, 0)) := heap_alloc_new _ _
    have HFB := Lib.hid hfb
    have HBA := Lib.hid hBA
    have HBR2 := Lib.hid (hbr.grow hBA)
    clear hq hbr hdm hgn hmid hgr NX HS2 HB2 hfb hBA
    go_wp2_with fail
    generalize hwa : w3.alloc (.cells #[.int .i64 x, .slice A m c] 42) = wa at *
    have HWA := Lib.hid hwa
    clear hwa
    have c1 : wa.cell? ⟨w3.heap.size, 1, none⟩ = some (.slice A m c) := cell_of_row _ _ 1 _ _ _ HFB.out
    go_loopw [31] (fun i wr => ∃ j : Nat, j ≤ m ∧ i = .int .i64 (j : Int) ∧ Hid (∀ q (h : q < d.length), j ≤ q → ∀ off, A = some ⟨g9, off, none⟩ → wr.cell? ⟨g9, off + q, none⟩ = some (.int .u8 (d[q].toNat : Int))) ∧ Hid (∀ cs fr, wa.heap[g9]? = some (.cells cs 5 fr) → ∃ cs', wr.heap[g9]? = some (.cells cs' 5 fr)) ∧ Hid (wa.grownBy wr (some g9))) (fun i _ => m - (intOf i).toNat)
    case atStart =>
      refine ⟨0, Nat.zero_le _, rfl, fun q hq _ off hA => ?_, fun cs fr h => ⟨cs, h⟩, World.grownBy.refl _ _⟩
      rcases HBR2.out.lies with ⟨h0, h1⟩ | ⟨off2, cs, hA2, _, _, hc⟩
      · have := HBR2.out.le
        omega
      · rw [hA2] at hA
        simp only [Option.some.injEq, Addr.mk.injEq, and_true, true_and] at hA
        subst hA
        exact hc q hq
    case round =>
      obtain ⟨j, hj, rfl, hC, hK, hG⟩ := hrel
      have HT : ∀ cs fr, wa.heap[g9]? = some (.cells cs 5 fr) → g9 ≠ w3.heap.size := fun cs fr h e => by
        rw [e, HFB.out] at h
        simp at h
      by_cases hlt : j < m
      · have hjd : j < d.length := by rw [HDM.out]; exact hlt
        obtain ⟨off, hoff⟩ := HBR2.out.some_of (by omega)
        obtain ⟨cs, hcs⟩ : ∃ cs, wa.heap[g9]? = some (.cells cs 5 (0, 0)) := by
          have h := HBR2.out
          rw [hoff] at h
          exact brow_blk h
        obtain ⟨cs2, hcs2⟩ := hK.out cs _ hcs
        have hq := hC.out j hjd (Nat.le_refl _) off hoff
        have hf := Joins.unfrozen_of_block hcs2 (off + j)
        have hne9 := HT _ _ hcs
        have c1' : wr.cell? ⟨w3.heap.size, 1, none⟩ = some (.slice A m c) := (World.cell?_of_block (a := ⟨w3.heap.size, 1, none⟩) (hG.out.block w3.heap.size (Array.getElem?_eq_some_iff.1 HFB.out).1 (fun e => hne9 (Option.some.inj e).symm))).trans c1
        have HCS2 := Lib.hid hcs2
        have HOFF := Lib.hid hoff
        clear hoff hcs hcs2 HT
        rw [HOFF.out] at c1'
        generalize d[j].toNat = y at hq
        go_wp2_with fail
        go_roundw
        case rel =>
          refine ⟨j + 1, by omega, by go_num, fun q hq2 hjq off' hA => ?_, fun cs fr h => ?_, grown_set hG.out _ _⟩
          · have e := HOFF.out.symm.trans hA
            simp only [Option.some.injEq, Addr.mk.injEq, and_true, true_and] at e
            subst e
            rw [World.cell?_setCell_other _ _ _ _ (by intro e; injection e; omega)]
            exact hC.out q hq2 (by omega) off hA
          · obtain ⟨cs', h'⟩ := hK.out cs fr h
            exact ⟨_, Joins.block_setCell h' _⟩
        case measure => simp [intOf]; omega
      · obtain rfl : j = m := by omega
        obtain ⟨pre, R', k', hsp, hrun, hp1, hpd⟩ := HMID.out
        have hspr : Spl W.heap.size W.heap.size g R' k' wr := (hsp.grow (HWA.out ▸ HBA.out)).row hG.out hbs9 (fun cs fr h => by
          have hgz : g ≠ w3.heap.size := by
            rintro rfl
            rw [HFB.out] at h
            simp at h
          have hgl : g < w3.heap.size := by
            have := (Array.getElem?_eq_some_iff.1 h).1
            rw [← HWA.out] at this
            simp at this
            omega
          exact HGN.out cs fr (((HWA.out ▸ HBA.out : Below w3.heap.size w3 wa).block g hgl).symm.trans h)) (by omega)
        have hRl : R'.length ≤ 1000 := by
          have := hrun.len.2.1
          have := HL.out
          omega
        have hbr9 : W.heap.size < wr.heap.size := by
          have := hG.out.size
          have := (Array.getElem?_eq_some_iff.1 HFB.out).1
          omega
        have HBW := Lib.hid (grown_below (HB3.out.trans ((HWA.out ▸ HBA.out : Below w3.heap.size w3 wa).mono HB3.out.size)) hG.out (by have := (Array.getElem?_eq_some_iff.1 HFB.out).1; omega) (by omega))
        have DR : Hid (Calls Tryd.prog 11 #[.pointer (some ⟨W.heap.size, 0, none⟩), .int .i64 ((n0 : Int) + 1)] wr (DrPost W.heap.size W.heap.size g R' k' wr)) := Lib.hid (drain_any W.heap.size W.heap.size g (n0 + 1) R' k' (by omega) (by have := hrun.len.2.1; have := HN0.out; omega) (by omega) (fun fs R2 k2 hr _ => by have := hr.len.2.1; omega) wr hspr hbr9)
        have HRun := Lib.hid hrun
        have HPD := Lib.hid hpd
        have HP1 := Lib.hid hp1
        clear hsp hrun hp1 hpd hspr HT hC hK hG HMID HGN HBR HBR2 HDM hlt c1 HFB HBA HWA HB3
        go_wp2_with fail
        refine DR.out.mono ?_
        rintro e w5 ⟨v5, vs, fs, R2, k2, rfl, ho5, hf5, hr5, hd5, hs5, hg5⟩
        obtain ⟨A5, c5, hv5⟩ := own_any ho5
        subst hv5
        have HB5 := Lib.hid (grown_below HBW.out hg5 HBW.out.size (Nat.le_refl _))
        have RS := Lib.hid (RS.out w5 HB5.out)
        have HO5 := Lib.hid ho5
        have HF5 := Lib.hid (hf5.imp (Q := fun _ => True) (fun _ _ => trivial))
        have HRR := Lib.hid (HRun.out.trans hr5)
        have HD5 := Lib.hid hd5
        have HS5 := Lib.hid hs5
        have hnil : pre = [] → fs = [] := fun h => (hr5.det hd5 (.nil _ _) (HPD.out h)).1
        have hcnt : (pre ++ fs).length ≤ 1000 := by
          have := HRR.out.len.1
          have := HL.out
          omega
        have hR2 : R2.length ≤ 1000 := by
          have := HRR.out.len.2.1
          have := HL.out
          omega
        have hdl : ∀ f ∈ fs, f.data.length ≤ 1000000 := fun f hf => by
          have := HRR.out.len.2.2 f (List.mem_append_right _ hf)
          have := HL.out
          omega
        have hmin : min (((pre ++ fs).length : Nat) : Int) 1 = ((pre.length : Nat) : Int) := by
          rw [List.length_append]
          cases pre with
          | nil => rw [hnil rfl]; rfl
          | cons a t =>
            have := HP1.out
            simp only [List.length_cons] at this ⊢
            omega
        have hz5 : W.heap.size < w5.heap.size := Nat.lt_of_lt_of_le hbr9 hg5.size
        have HDL := Lib.hid hdl
        have HMIN := Lib.hid hmin
        clear ho5 hf5 hr5 hd5 hs5 hg5 DR hnil hdl hmin HBW HRun HPD
        obtain ⟨nf, hnf⟩ : ∃ nf, fs.length = nf := ⟨_, rfl⟩
        rw [hnf]
        have HNF := Lib.hid hnf
        clear hnf
        go_wp2_with fail
        refine RS.out.mono ?_
        rintro e w6 hp
        obtain ⟨v6, us, he, ho6, hf6, hb6⟩ := split_is hp HRR.out HD5.out
        subst he
        obtain ⟨A6, c6, hv6⟩ := own_any ho6
        subst hv6
        have hc6 : (pre ++ fs).length ≤ c6 := own_capF ho6
        have HB6 := Lib.hid (below_next HB5.out hb6)
        have HQ6 := Lib.hid (FsAt.of_own ho6 hf6)
        have HQ5 := Lib.hid ((FsAt.of_own HO5.out HF5.out).below hb6)
        have HS6 := Lib.hid (HS5.out.grow hb6)
        have hz6 : W.heap.size < w6.heap.size := Nat.lt_of_lt_of_le hz5 hb6.size
        obtain ⟨np, hnp⟩ : ∃ np, (pre ++ fs).length = np := ⟨_, rfl⟩
        obtain ⟨q, hq⟩ : ∃ q, pre.length = q := ⟨_, rfl⟩
        have hmin := HMIN.out
        rw [hnp, hq] at hmin
        rw [hnp] at hc6 hcnt
        rw [hnp]
        have hqn : q + fs.length = np := by rw [← hnp, ← hq, List.length_append]
        have HQN := Lib.hid hqn
        have HNP := Lib.hid hnp
        have HQL := Lib.hid hq
        have hqle : q ≤ np := by omega
        clear hp ho6 hf6 hb6 RS HRR HD5 HO5 HF5 HS5 HB5 hqn hnp hq HMIN
        have hsl := fun X => sliceF_l A6 np c6 q hqle X
        have hse := fun x lo hi mx X => sliceAtF_eq x lo hi mx X
        go_wp2_with fail
        refine (feed_nil A0 n0 c0 w6).mono ?_
        rintro e w7 ⟨rfl, rfl⟩
        go_wp2_with fail
        refine (next_nil w6).mono ?_
        rintro e w7 ⟨rfl, hb7⟩
        have hb8 := below_next hb7 (below_al w7 (.cells #[.int .i64 0, .slice none 0 0] 42))
        have HB8 := Lib.hid (below_next HB6.out hb8)
        have HQ68 := Lib.hid (HQ6.out.below hb8)
        have HQ58 := Lib.hid (HQ5.out.below hb8)
        have HS8 := Lib.hid (HS6.out.grow hb8)
        have AL8 := Lib.hid (AL.out _ HB8.out)
        clear hb7 hb8 HQ6 HQ5 HS6 HB6 AL
        go_wp2_with fail
        refine AL8.out.mono ?_
        rintro e w9 ⟨rfl, hb9⟩
        have HB9 := Lib.hid (below_next HB8.out hb9)
        have hdrop := (HQ68.out.below hb9).drop c6 q (by rw [HNP.out]; exact hc6)
        rw [show (pre ++ fs).drop q = fs by rw [← HQL.out, List.drop_left]] at hdrop
        have SM := Lib.hid (same_any fs nf HNF.out (by have := HNF.out; have := HQN.out; omega) HDL.out w9 A5 (offF A6 c6 q) c5 (c6 - q) vs (us.drop q) (HQ58.out.below hb9) hdrop)
        have HS9 := Lib.hid (HS8.out.grow hb9)
        clear hb9 hdrop AL8 HQ68 HQ58 HS8 HB8
        have hnq : np - q = nf := by have := HQN.out; have := HNF.out; omega
        go_wp2_with fail
        clear hnq
        refine SM.out.mono ?_
        rintro e w10 ⟨rfl, hb10⟩
        have HB10 := Lib.hid (below_next HB9.out hb10)
        have LF := Lib.hid (left_any W.heap.size W.heap.size g k2 R2 (by omega) w10 (HS9.out.grow hb10))
        clear hb10 SM HS9 HB9
        go_wp2_with fail
        refine LF.out.mono ?_
        rintro e w11 ⟨rfl, hb11⟩
        have HB11 := Lib.hid (below_next HB10.out hb11)
        clear hb11 LF HB10
        go_wp2_with fail
        refine (left_nil w11).mono ?_
        rintro e w12 ⟨rfl, rfl⟩
        go_wp2_with fail
        go_ret
        exact ⟨rfl, HB11.out⟩
end Go.Proofs.YtldlghfjinpnkaaDoor
