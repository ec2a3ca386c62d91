import Derived.Test.YtpgfnlhfciacoaaGreatDoorPGf
import Derived.StillTailTactics
set_option maxRecDepth 100000
set_option maxHeartbeats 4000000
open Go.Lib renaming hid → Hi
namespace Go.Proofs.YtpgfnlhfciacoaaGreatDoor
open Go.RowKit
theorem keep3 {w W : World} {b : Nat} {u v x : Value} (hlt : b < w.heap.size) (h0 : w.cell? ⟨b, 0, none⟩ = some u) (h1 : w.cell? ⟨b, 1, none⟩ = some v) (h2 : w.cell? ⟨b, 2, none⟩ = some x) (h : Below w.heap.size w W) : W.cell? ⟨b, 0, none⟩ = some u ∧ W.cell? ⟨b, 1, none⟩ = some v ∧ W.cell? ⟨b, 2, none⟩ = some x ∧ Below w.heap.size w W :=
 ⟨(h.cell (p := ⟨b, 0, none⟩) hlt).trans h0, (h.cell (p := ⟨b, 1, none⟩) hlt).trans h1, (h.cell (p := ⟨b, 2, none⟩) hlt).trans h2, h⟩
theorem nx_last {B bs g c n e g' c' : Nat} {A A' : Option Addr} {R l : List UInt8} {w w3 w4 w' : World} (lo : B ≤ bs ∧ B ≤ g ∧ g ≠ bs) (hw : B ≤ w.heap.size) (hbs : bs < w.heap.size) (henv : EnvB B w) (hb : BRow g w A c R) (hn : R.length = n) (he : e + 2 ≤ n)
 (g3 : w.grownBy w3 (some bs)) (hg' : w3.heap.size ≤ g') (hb4 : BRow g' w4 A' c' l) (hr4 : Raw bs (offA A c (e + 2)) (n - (e + 2)) (c - (e + 2)) 0 0 0 (stFn 93 bs) w4) (hg4 : w3.grownBy w4 (some bs)) (hz : w.heap.size < w3.heap.size) (hk : w4.grownBy w' (some w.heap.size)) :
 FrD (w.heap.size ≤ ·) w' (.slice A' l.length c') l ∧ Spl B bs g (R.drop (e + 2)) 0 w' ∧ w.grownBy w' (some bs) := by
 have g1 : w.grownBy w' (some bs) := (g3.trans hg4).andThen hk (fun j hj => .inl (by injection hj; omega))
 refine ⟨⟨A', c', g', rfl, hb4.grown hk (by intro e; injection e; omega), by omega⟩, ⟨lo, Nat.le_trans hw g1.size, henv.grown g1 lo.1 hw, _, _, (hb.grown g1 (by intro e; injection e; omega)).drop (by omega), .inl ⟨0, ⟨Nat.le_refl _, Nat.zero_le _, fun j _ hj => absurd hj (Nat.not_lt_zero _)⟩, ?_⟩⟩, g1⟩
 have := hr4.grown hk (by intro e; injection e; omega)
 rw [List.length_drop, hn]
 exact this
theorem announced_cut (g c : Nat) (A : Option Addr) (R : List UInt8) (k e : Nat) (hk : k ≤ e) (he : e ≤ R.length) (hR : R.length ≤ 1000000) (o : Option Nat) (ho : annOf ((R.take e).drop k) = o) (w : World) (henv : Env w) (hb : BRow g w A c R) :
 Calls Tryz.prog 132 #[.slice (offA A c k) (e - k) (c - k)] w fun e' w' => e' = .returned (.tuple #[.int .i64 ((o.getD 0 : Nat) : Int), .bool o.isSome]) ∧ Below w.heap.size w w' := by
 have hl : ((R.take e).drop k).length = e - k := cut_len he
 have := announced_any w.heap.size (c - k) (offA A c k) ((R.take e).drop k) (by omega) w henv (hb.by.cut hk he)
 rw [hl] at this
 refine this.mono ?_
 rintro e' w' ⟨⟨o', h1, rfl⟩, h2⟩
 rw [isAnn_eq h1 (isAnn_of _), ho]
 exact ⟨rfl, h2⟩
theorem rl_cmd (B bs g c : Nat) (A : Option Addr) (R : List UInt8) (k a n e : Nat) (hn : R.length = n) (hR : n ≤ 1000000) (w : World) (lo : B ≤ bs ∧ B ≤ g ∧ g ≠ bs) (hw : B ≤ w.heap.size) (henv : EnvB B w) (hb : BRow g w A c R)
 (hs : Scan R k a) (h : Raw bs A n c (k : Int) (a : Int) 0 (stFn 93 bs) w) (he : ZK R k = some e) (hsh : ¬ 8192 < e - k) (ho : annOf ((R.take e).drop k) = none) :
 Calls Tryz.prog 93 #[.pointer (some ⟨bs, 0, none⟩)] w (NxPost B bs g R k w) := by
 have hbs := h.lt
 have hle := hb.le
 have hlt := endOf_lt he
 obtain ⟨off, rfl⟩ := hb.some_of (by omega)
 have b0 := YB w (.cells #[.int .i64 0, .slice none 0 0] 62)
 have SE := Hi (search_yes B bs g c _ R (k : Int) 0 _ a n e hn (by have := hs.2.1; omega) hR _ (by simp; omega) (henv.below (b0.mono hw)) (hb.grow b0) (h.grow b0) (by rw [← hs.endOf]; exact he))
 have AN := Hi (fun W (hE : Env W) (hB : BRow g W (some ⟨g, off, none⟩) c R) => announced_cut g c _ R k e hlt.1 (by omega) (by omega) none ho W hE hB)
 have LA := Hi (fun (W : World) (hW : Raw bs (some ⟨g, off, none⟩) n c (k : Int) (e : Int) 0 (stFn 93 bs) W) (hB : BRow g W (some ⟨g, off, none⟩) c R) => last_any bs n c (some ⟨g, off, none⟩) (k : Int) 0 1 _ e (by omega) hR W hW ⟨g, off, none⟩ c e (R.take e) (by rw [List.length_take]; omega) (by omega) W.heap.size (hB.take (by omega)).by)
 have hka := hs.1
 have HST := Hi (stepF_command he hsh ho)
 have HN := Hi hn
 have HENV := Hi henv
 have HB := Hi hb
 have LO := Hi lo
 have B0 := Hi b0
 have hsl := fun W => slice_lh (some ⟨g, off, none⟩) n c k e hlt.1 (by omega) W
 have hsl2 := fun W => slice_h (some ⟨g, off, none⟩) n c e (by omega) W
 have hse := fun x lo hi mx W => YY x lo hi mx W
 clear h hs he hn henv hb lo b0 ho
 go_enter Tryz.func93, Tryz.ntmps93
 go_wp2_with fail
 refine SE.out.mono ?_
 rintro e' w1 ⟨rfl, hr, hg⟩
 have c0 := hr.out.c0
 have c1 := hr.out.c1
 have c2 := hr.out.c2
 have hb1 : bs < w1.heap.size := hr.out.lt
 have HX := Hi (res_block hg.out hbs)
 have G1 := Hi ((YE (row := some bs) B0.out).trans hg.out)
 have HB1 := Hi (HB.out.grown G1.out (fun e => LO.out.2.2 (Option.some.inj e)))
 have AN : ∀ W, Below w1.heap.size w1 W → Calls Tryz.prog 132 #[.slice (offA (some ⟨g, off, none⟩) c k) (e - k) (c - k)] W fun e' w' => e' = .returned (.tuple #[.int .i64 ((Option.getD (none : Option Nat) 0 : Nat) : Int), .bool (none : Option Nat).isSome]) ∧ Below w1.heap.size w1 w' := fun W hW => by
  refine (AN.out W ((HENV.out.grown G1.out LO.out.1 hw).below (hW.mono (by have := G1.out.size; omega))).env (HB1.out.grow hW)).mono ?_
  rintro e' w' ⟨h1, h2⟩
  exact ⟨h1, YA hW h2⟩
 have AN := Hi AN
 have hd : IntKind.i64.wrap ((e : Int) - (k : Int)) = ((e - k : Nat) : Int) := by rw [Go.IntWalk.i64_in _ (by omega)]; omega
 have ht : decide ((8192 : Int) < ((e - k : Nat) : Int)) = false := by simp; omega
 clear SE
 go_wp2_with fail
 go_quiet (fail)
 clear hd ht
 go_wp2_with fail
 go_region_held3 (fun w' => w'.cell? ⟨bs, 0, none⟩ = some (.slice (some ⟨g, off, none⟩) n c) ∧ w'.cell? ⟨bs, 1, none⟩ = some (.int .i64 (k : Int)) ∧ w'.cell? ⟨bs, 2, none⟩ = some (.int .i64 (e : Int)) ∧ Below w1.heap.size w1 w')
  ((refine keep3 hb1 c0 c1 c2 ?_; repeat (first | assumption | exact Below.refl _ _ | refine belDrawN ?_ _ | refine ZJ ?_ | refine ZY ?_ _)))
  ((go_at_call 132; refine (AN.out _ (by repeat (first | assumption | exact Below.refl _ _ | refine belDrawN ?_ _ | refine ZJ ?_ | refine ZY ?_ _))).mono ?_; rintro e' w2 ⟨rfl, hb2⟩))
 have HB2 := Hi hb2
 have R2 := Hi (hr.out.grow hb2)
 have BR2 := Hi (HB1.out.grow hb2)
 have RB2 := Hi ((hb2.block _ (Array.getElem?_eq_some_iff.1 HX.out).1).trans HX.out)
 clear c0 c1 c2 hb2 AN hr
 have c0 := R2.out.c0
 have c2 := R2.out.c2
 go_wp2_with fail
 go_still_tail 10, (by kernel_rfl)
 change wpList _ _ _ _ _ w2.drew
 have R3 := Hi R2.out.drew
 have BR3 := Hi (BR2.out.grow (ZJ (Below.refl _ w2)))
 have RB3 := Hi (show w2.drew.heap[w.heap.size]? = _ from RB2.out)
 have B3 := Hi (ZJ HB2.out)
 clear HB2 R2 BR2 RB2
 generalize w2.drew = w3 at *
 go_wp2_with fail
 refine (LA.out _ R3.out BR3.out).mono ?_
 rintro e' w4 ⟨A', c', g', rfl, hg', hb4, hr4, hg4⟩
 have RB4 := Hi ((hg4.block _ (Array.getElem?_eq_some_iff.1 RB3.out).1 (fun e => by injection e; omega)).trans RB3.out)
 have G3 := Hi (G1.out.trans (YE B3.out))
 have HZ := Hi (Array.getElem?_eq_some_iff.1 RB3.out).1
 have k0 := cell_of_row _ _ 0 _ _ _ RB4.out
 have k1 := cell_of_row _ _ 1 _ _ _ RB4.out
 have kf0 := Joins.unfrozen_of_block RB4.out 0
 have kf1 := Joins.unfrozen_of_block RB4.out 1
 have HG' := Hi hg'
 have HB4 := Hi hb4
 have HR4 := Hi hr4
 have HG4 := Hi hg4
 have HLE := Hi (show e + 2 ≤ n by rw [← HN.out]; omega)
 clear hg' hb4 hr4 hg4 LA
 go_wp2_with fail
 refine bodyPost_ret (v := .tuple #[.agg #[.int .i64 1, .slice A' (R.take e).length c'], .bool true]) (by simp [results, Tryz.results93, go_sem, k0, k1]) rfl ?_
 refine Or.inl ⟨_, _, _, _, HST.out, rfl, ?_⟩
 refine nx_last LO.out hw hbs HENV.out HB.out HN.out HLE.out G3.out HG'.out HB4.out HR4.out HG4.out HZ.out ?_
 repeat (first | exact World.grownBy.refl _ _ | refine YH ?_ _ _ | refine QA ?_ _ | refine QM ?_)
theorem rl_big (B bs g c : Nat) (A : Option Addr) (R : List UInt8) (k a n e x : Nat) (hn : R.length = n) (hR : n ≤ 1000000) (w : World) (lo : B ≤ bs ∧ B ≤ g ∧ g ≠ bs) (hw : B ≤ w.heap.size) (henv : EnvB B w) (hb : BRow g w A c R)
 (hs : Scan R k a) (h : Raw bs A n c (k : Int) (a : Int) 0 (stFn 93 bs) w) (he : ZK R k = some e) (hsh : ¬ 8192 < e - k) (ho : annOf ((R.take e).drop k) = some x) (hx : 65536 < x) :
 Calls Tryz.prog 93 #[.pointer (some ⟨bs, 0, none⟩)] w (NxPost B bs g R k w) := by
 have hbs := h.lt
 have hle := hb.le
 have hlt := endOf_lt he
 obtain ⟨off, rfl⟩ := hb.some_of (by omega)
 have b0 := YB w (.cells #[.int .i64 0, .slice none 0 0] 62)
 have SE := Hi (search_yes B bs g c _ R (k : Int) 0 _ a n e hn (by have := hs.2.1; omega) hR _ (by simp; omega) (henv.below (b0.mono hw)) (hb.grow b0) (h.grow b0) (by rw [← hs.endOf]; exact he))
 have AN := Hi (fun W (hE : Env W) (hB : BRow g W (some ⟨g, off, none⟩) c R) => announced_cut g c _ R k e hlt.1 (by omega) (by omega) (some x) ho W hE hB)
 have LA := Hi (fun (W : World) (hW : Raw bs (some ⟨g, off, none⟩) n c (k : Int) (e : Int) 0 (stFn 93 bs) W) (hB : BRow g W (some ⟨g, off, none⟩) c R) => last_any bs n c (some ⟨g, off, none⟩) (k : Int) 0 4 _ e (by omega) hR W hW ⟨g, off, none⟩ c e (R.take e) (by rw [List.length_take]; omega) (by omega) W.heap.size (hB.take (by omega)).by)
 have hka := hs.1
 have HST := Hi (stepF_big he hsh ho hx)
 have HN := Hi hn
 have HENV := Hi henv
 have HB := Hi hb
 have LO := Hi lo
 have B0 := Hi b0
 have hsl := fun W => slice_lh (some ⟨g, off, none⟩) n c k e hlt.1 (by omega) W
 have hsl2 := fun W => slice_h (some ⟨g, off, none⟩) n c e (by omega) W
 have hse := fun x lo hi mx W => YY x lo hi mx W
 clear h hs he hn henv hb lo b0
 go_enter Tryz.func93, Tryz.ntmps93
 go_wp2_with fail
 refine SE.out.mono ?_
 rintro e' w1 ⟨rfl, hr, hg⟩
 have c0 := hr.out.c0
 have c1 := hr.out.c1
 have c2 := hr.out.c2
 have hb1 : bs < w1.heap.size := hr.out.lt
 have HX := Hi (res_block hg.out hbs)
 have G1 := Hi ((YE (row := some bs) B0.out).trans hg.out)
 have HB1 := Hi (HB.out.grown G1.out (fun e => LO.out.2.2 (Option.some.inj e)))
 have AN : ∀ W, Below w1.heap.size w1 W → Calls Tryz.prog 132 #[.slice (offA (some ⟨g, off, none⟩) c k) (e - k) (c - k)] W fun e' w' => e' = .returned (.tuple #[.int .i64 (x : Int), .bool true]) ∧ Below w1.heap.size w1 w' := fun W hW => by
  refine (AN.out W ((HENV.out.grown G1.out LO.out.1 hw).below (hW.mono (by have := G1.out.size; omega))).env (HB1.out.grow hW)).mono ?_
  rintro e' w' ⟨h1, h2⟩
  exact ⟨h1, YA hW h2⟩
 have AN := Hi AN
 have hd : IntKind.i64.wrap ((e : Int) - (k : Int)) = ((e - k : Nat) : Int) := by rw [Go.IntWalk.i64_in _ (by omega)]; omega
 have ht : decide ((8192 : Int) < ((e - k : Nat) : Int)) = false := by simp; omega
 have hx4 := annOf_le ho
 have hxt : decide ((65536 : Int) < (x : Int)) = true := by simp; omega
 clear SE ho
 go_wp2_with fail
 go_quiet (fail)
 clear hd ht
 go_wp2_with fail
 go_region_held3 (fun w' => w'.cell? ⟨bs, 0, none⟩ = some (.slice (some ⟨g, off, none⟩) n c) ∧ w'.cell? ⟨bs, 1, none⟩ = some (.int .i64 (k : Int)) ∧ w'.cell? ⟨bs, 2, none⟩ = some (.int .i64 (e : Int)) ∧ Below w1.heap.size w1 w')
  ((refine keep3 hb1 c0 c1 c2 ?_; repeat (first | assumption | exact Below.refl _ _ | refine belDrawN ?_ _ | refine ZJ ?_ | refine ZY ?_ _)))
  ((go_at_call 132; refine (AN.out _ (by repeat (first | assumption | exact Below.refl _ _ | refine belDrawN ?_ _ | refine ZJ ?_ | refine ZY ?_ _))).mono ?_; rintro e' w2 ⟨rfl, hb2⟩))
 have HB2 := Hi hb2
 have R2 := Hi (hr.out.grow hb2)
 have BR2 := Hi (HB1.out.grow hb2)
 have RB2 := Hi ((hb2.block _ (Array.getElem?_eq_some_iff.1 HX.out).1).trans HX.out)
 clear c0 c1 c2 hb2 AN hr
 have c0 := R2.out.c0
 have c2 := R2.out.c2
 go_wp2_with fail
 go_still_tail 10, (by kernel_rfl)
 change wpList _ _ _ _ _ w2.drew
 have R3 := Hi R2.out.drew
 have BR3 := Hi (BR2.out.grow (ZJ (Below.refl _ w2)))
 have RB3 := Hi (show w2.drew.heap[w.heap.size]? = _ from RB2.out)
 have B3 := Hi (ZJ HB2.out)
 clear HB2 R2 BR2 RB2
 generalize w2.drew = w3 at *
 go_wp2_with fail
 refine (LA.out _ R3.out BR3.out).mono ?_
 rintro e' w4 ⟨A', c', g', rfl, hg', hb4, hr4, hg4⟩
 have RB4 := Hi ((hg4.block _ (Array.getElem?_eq_some_iff.1 RB3.out).1 (fun e => by injection e; omega)).trans RB3.out)
 have G3 := Hi (G1.out.trans (YE B3.out))
 have HZ := Hi (Array.getElem?_eq_some_iff.1 RB3.out).1
 have k0 := cell_of_row _ _ 0 _ _ _ RB4.out
 have k1 := cell_of_row _ _ 1 _ _ _ RB4.out
 have kf0 := Joins.unfrozen_of_block RB4.out 0
 have kf1 := Joins.unfrozen_of_block RB4.out 1
 have HG' := Hi hg'
 have HB4 := Hi hb4
 have HR4 := Hi hr4
 have HG4 := Hi hg4
 have HLE := Hi (show e + 2 ≤ n by rw [← HN.out]; omega)
 clear hg' hb4 hr4 hg4 LA
 go_wp2_with fail
 refine bodyPost_ret (v := .tuple #[.agg #[.int .i64 4, .slice A' (R.take e).length c'], .bool true]) (by simp [results, Tryz.results93, go_sem, k0, k1]) rfl ?_
 refine Or.inl ⟨_, _, _, _, HST.out, rfl, ?_⟩
 refine nx_last LO.out hw hbs HENV.out HB.out HN.out HLE.out G3.out HG'.out HB4.out HR4.out HG4.out HZ.out ?_
 repeat (first | exact World.grownBy.refl _ _ | refine YH ?_ _ _ | refine QA ?_ _ | refine QM ?_)
theorem rl_ready (B bs g c : Nat) (A : Option Addr) (R : List UInt8) (k a n e x : Nat) (hn : R.length = n) (hR : n ≤ 1000000) (w : World) (lo : B ≤ bs ∧ B ≤ g ∧ g ≠ bs) (hw : B ≤ w.heap.size) (henv : EnvB B w) (hb : BRow g w A c R)
 (hs : Scan R k a) (h : Raw bs A n c (k : Int) (a : Int) 0 (stFn 93 bs) w) (he : ZK R k = some e) (hsh : ¬ 8192 < e - k) (ho : annOf ((R.take e).drop k) = some x) (hx : ¬ 65536 < x) :
 Calls Tryz.prog 93 #[.pointer (some ⟨bs, 0, none⟩)] w (NxPost B bs g R k w) := by
 have hbs := h.lt
 have hle := hb.le
 have hlt := endOf_lt he
 obtain ⟨off, rfl⟩ := hb.some_of (by omega)
 have b0 := YB w (.cells #[.int .i64 0, .slice none 0 0] 62)
 have SE := Hi (search_yes B bs g c _ R (k : Int) 0 _ a n e hn (by have := hs.2.1; omega) hR _ (by simp; omega) (henv.below (b0.mono hw)) (hb.grow b0) (h.grow b0) (by rw [← hs.endOf]; exact he))
 have AN := Hi (fun W (hE : Env W) (hB : BRow g W (some ⟨g, off, none⟩) c R) => announced_cut g c _ R k e hlt.1 (by omega) (by omega) (some x) ho W hE hB)
 have hka := hs.1
 have HST := Hi (stepF_ready he hsh ho hx)
 have HN := Hi hn
 have HENV := Hi henv
 have HB := Hi hb
 have LO := Hi lo
 have B0 := Hi b0
 have hsl := fun W => slice_lh (some ⟨g, off, none⟩) n c k e hlt.1 (by omega) W
 have hsl2 := fun W => slice_h (some ⟨g, off, none⟩) n c e (by omega) W
 have hse := fun x lo hi mx W => YY x lo hi mx W
 clear h hs he hn henv hb lo b0
 go_enter Tryz.func93, Tryz.ntmps93
 go_wp2_with fail
 refine SE.out.mono ?_
 rintro e' w1 ⟨rfl, hr, hg⟩
 have c0 := hr.out.c0
 have c1 := hr.out.c1
 have c2 := hr.out.c2
 have hb1 : bs < w1.heap.size := hr.out.lt
 have HX := Hi (res_block hg.out hbs)
 have G1 := Hi ((YE (row := some bs) B0.out).trans hg.out)
 have HB1 := Hi (HB.out.grown G1.out (fun e => LO.out.2.2 (Option.some.inj e)))
 have AN : ∀ W, Below w1.heap.size w1 W → Calls Tryz.prog 132 #[.slice (offA (some ⟨g, off, none⟩) c k) (e - k) (c - k)] W fun e' w' => e' = .returned (.tuple #[.int .i64 (x : Int), .bool true]) ∧ Below w1.heap.size w1 w' := fun W hW => by
  refine (AN.out W ((HENV.out.grown G1.out LO.out.1 hw).below (hW.mono (by have := G1.out.size; omega))).env (HB1.out.grow hW)).mono ?_
  rintro e' w' ⟨h1, h2⟩
  exact ⟨h1, YA hW h2⟩
 have AN := Hi AN
 have hd : IntKind.i64.wrap ((e : Int) - (k : Int)) = ((e - k : Nat) : Int) := by rw [Go.IntWalk.i64_in _ (by omega)]; omega
 have ht : decide ((8192 : Int) < ((e - k : Nat) : Int)) = false := by simp; omega
 have hx4 := annOf_le ho
 have hxt : decide ((65536 : Int) < (x : Int)) = false := by simp; omega
 clear SE ho
 go_wp2_with fail
 go_quiet (fail)
 clear hd ht
 go_wp2_with fail
 go_region_held3 (fun w' => w'.cell? ⟨bs, 0, none⟩ = some (.slice (some ⟨g, off, none⟩) n c) ∧ w'.cell? ⟨bs, 1, none⟩ = some (.int .i64 (k : Int)) ∧ w'.cell? ⟨bs, 2, none⟩ = some (.int .i64 (e : Int)) ∧ Below w1.heap.size w1 w')
  ((refine keep3 hb1 c0 c1 c2 ?_; repeat (first | assumption | exact Below.refl _ _ | refine belDrawN ?_ _ | refine ZJ ?_ | refine ZY ?_ _)))
  ((go_at_call 132; refine (AN.out _ (by repeat (first | assumption | exact Below.refl _ _ | refine belDrawN ?_ _ | refine ZJ ?_ | refine ZY ?_ _))).mono ?_; rintro e' w2 ⟨rfl, hb2⟩))
 have HB2 := Hi hb2
 have R2 := Hi (hr.out.grow hb2)
 have RB2 := Hi ((hb2.block _ (Array.getElem?_eq_some_iff.1 HX.out).1).trans HX.out)
 clear c0 c1 c2 hb2 AN hr
 have c0 := R2.out.c0
 have c2 := R2.out.c2
 have c4 := R2.out.c4
 have f2 := R2.out.fz 2
 have f4 := R2.out.fz 4
 have k0 := cell_of_row _ _ 0 _ _ _ RB2.out
 have k1 := cell_of_row _ _ 1 _ _ _ RB2.out
 have kf0 := Joins.unfrozen_of_block RB2.out 0
 have kf1 := Joins.unfrozen_of_block RB2.out 1
 have hne : bs ≠ w.heap.size := by omega
 have RN := Hi ((R2.out.set2 ((e : Int) + (2 + (x : Int)))).set4 (stFn 134 bs))
 have GN := Hi (YH (YH (hg.out.trans (YE HB2.out)) 2 (.int .i64 ((e : Int) + (2 + (x : Int))))) 4 (stFn 134 bs))
 have hlt2 : (e : Int) ≤ 1000000 := by have := HN.out; omega
 go_wp2_with fail
 refine bodyPost_ret (v := .tuple #[.agg #[.int .i64 2, .slice none 0 0], .bool true]) (by simp [results, Tryz.results93, go_sem, k0, k1]) rfl ?_
 refine Or.inl ⟨_, _, _, _, HST.out, rfl, ⟨none, 0, w.heap.size, rfl, BRow.nil _ _, Nat.le_refl _⟩, ?_⟩
 refine nx_end LO.out hw hbs HENV.out B0.out HB.out HN.out GN.out (.inr ⟨(k : Int), by rw [HN.out]; exact RN.out.cast rfl (by omega) rfl rfl⟩) ?_
 repeat (first | exact World.grownBy.refl _ _ | refine YH ?_ _ _ | refine QA ?_ _ | refine QM ?_)
def LgPost (bs g : Nat) (R l : List UInt8) (w : World) (e' : Ending) (w' : World) : Prop :=
 ∃ A' c' g' A c, e' = .returned (.tuple #[.agg #[.int .i64 3, .slice A' l.length c'], .bool true]) ∧ w.heap.size ≤ g' ∧ BRow g' w' A' c' l ∧ BRow g w' A c R ∧
  Raw bs A R.length c 0 0 0 (stFn 93 bs) w' ∧ w.grownBy w' (some bs)
theorem nx_last0 {bs g c n e g' c' : Nat} {A A' : Option Addr} {R l : List UInt8} {w w3 w4 w' : World} (lo : g ≠ bs) (hbs : bs < w.heap.size) (hb : BRow g w A c R) (hn : R.length = n) (he : e + 2 ≤ n)
 (g3 : w.grownBy w3 (some bs)) (hg' : w3.heap.size ≤ g') (hb4 : BRow g' w4 A' c' l) (hr4 : Raw bs (offA A c (e + 2)) (n - (e + 2)) (c - (e + 2)) 0 0 0 (stFn 93 bs) w4) (hg4 : w3.grownBy w4 (some bs)) (hz : w.heap.size < w3.heap.size) (hk : w4.grownBy w' (some w.heap.size)) :
 LgPost bs g (R.drop (e + 2)) l w (.returned (.tuple #[.agg #[.int .i64 3, .slice A' l.length c'], .bool true])) w' := by
 have g1 : w.grownBy w' (some bs) := (g3.trans hg4).andThen hk (fun j hj => .inl (by injection hj; omega))
 have := hr4.grown hk (by intro e; injection e; omega)
 rw [← hn, ← List.length_drop] at this
 exact ⟨A', c', g', _, _, rfl, by omega, hb4.grown hk (by intro e; injection e; omega), (hb.grown g1 (by intro e; injection e; omega)).drop (by omega), this, g1⟩
theorem readLong_t (B bs g c off : Nat) (R : List UInt8) (n e : Nat) (ln dr : Int) (fn : Value) (hn : R.length = n) (hR : n ≤ 1000000) (w : World) (lo : B ≤ bs ∧ B ≤ g ∧ g ≠ bs) (hw : B ≤ w.heap.size) (henv : EnvB B w) (hb : BRow g w (some ⟨g, off, none⟩) c R)
 (h : Raw bs (some ⟨g, off, none⟩) n c ln (e : Int) dr fn w) (he : ZK R e = some e) (hl : 8192 ≤ e) :
 Calls Tryz.prog 171 #[.pointer (some ⟨bs, 0, none⟩)] w (LgPost bs g (R.drop (e + 2)) (R.take 8192) w) := by
 have hbs := h.lt
 have hle := hb.le
 have hlt := endOf_lt he
 have b0 := YB w (.cells #[.int .i64 0, .slice none 0 0] 62)
 have SE := Hi (search_yes B bs g c _ R ln dr _ e n e hn (by omega) hR _ (by simp; omega) (henv.below (b0.mono hw)) (hb.grow b0) (h.grow b0) he)
 have LA := Hi (fun (W : World) (hW : Raw bs (some ⟨g, off, none⟩) n c ln (e : Int) dr fn W) (hB : BRow g W (some ⟨g, off, none⟩) c R) => last_any bs n c (some ⟨g, off, none⟩) ln dr 3 _ e (by omega) hR W hW ⟨g, off, none⟩ c 8192 (R.take 8192) (by rw [List.length_take]; omega) (by omega) W.heap.size (hB.take (by omega)).by)
 have HN := Hi hn
 have HB := Hi hb
 have LO := Hi lo
 have B0 := Hi b0
 have HLE := Hi (show e + 2 ≤ n by omega)
 have hsl2 : ∀ W, (Instr.slice 24 (.slice (some ⟨g, off, none⟩) n c) none (some (.int .i64 8192)) none).run Tryz.prog W = .ok (.slice (some ⟨g, off, none⟩) 8192 c) W := fun W => slice_h (some ⟨g, off, none⟩) n c 8192 (by omega) W
 have hse := fun x lo hi mx W => YY x lo hi mx W
 clear h he hn henv hb lo b0
 go_enter Tryz.func171, Tryz.ntmps171
 go_wp2_with fail
 refine SE.out.mono ?_
 rintro e' w1 ⟨rfl, hr, hg⟩
 have c0 := hr.out.c0
 have HX := Hi (res_block hg.out hbs)
 have G1 := Hi ((YE (row := some bs) B0.out).trans hg.out)
 have HB1 := Hi (HB.out.grown G1.out (fun e => LO.out.2.2 (Option.some.inj e)))
 clear SE
 go_wp2_with fail
 refine (LA.out _ hr.out HB1.out).mono ?_
 rintro e' w4 ⟨A', c', g', rfl, hg', hb4, hr4, hg4⟩
 have RB4 := Hi ((hg4.block _ (Array.getElem?_eq_some_iff.1 HX.out).1 (fun e => by injection e; omega)).trans HX.out)
 have HZ := Hi (Array.getElem?_eq_some_iff.1 HX.out).1
 have k0 := cell_of_row _ _ 0 _ _ _ RB4.out
 have k1 := cell_of_row _ _ 1 _ _ _ RB4.out
 have kf0 := Joins.unfrozen_of_block RB4.out 0
 have kf1 := Joins.unfrozen_of_block RB4.out 1
 have HG' := Hi hg'
 have HB4 := Hi hb4
 have HR4 := Hi hr4
 have HG4 := Hi hg4
 clear hg' hb4 hr4 hg4 LA
 go_wp2_with fail
 refine bodyPost_ret (v := .tuple #[.agg #[.int .i64 3, .slice A' (R.take 8192).length c'], .bool true]) (by simp [results, Tryz.results171, go_sem, k0, k1]) rfl ?_
 refine nx_last0 LO.out.2.2 hbs HB.out HN.out HLE.out G1.out HG'.out HB4.out HR4.out HG4.out HZ.out ?_
 repeat (first | exact World.grownBy.refl _ _ | refine YH ?_ _ _ | refine QA ?_ _ | refine QM ?_)
theorem brow_blk {g c off : Nat} {w : World} {R : List UInt8} (h : BRow g w (some ⟨g, off, none⟩) c R) : ∃ cs, w.heap[g]? = some (.cells cs 5 (0, 0)) := by
 rcases h.lies with ⟨h0, _⟩ | ⟨_, cs, _, hh, _⟩
 · cases h0
 · exact ⟨cs, hh⟩
theorem lg_end {bs g g' c' c : Nat} {A A' : Option Addr} {R l : List UInt8} {w w4 w' : World} (_lo : g ≠ bs) (hbs : bs < w.heap.size) (hg' : w.heap.size ≤ g') (hg2 : w.heap.size < g') (hb4 : BRow g' w4 A' c' l) (hbR : BRow g w4 A c R)
 (hr4 : Raw bs A R.length c 0 0 0 (stFn 93 bs) w4) (hg4 : w.grownBy w4 (some bs)) (hgw : g < w.heap.size) (hk : w4.grownBy w' (some w.heap.size)) :
 LgPost bs g R l w (.returned (.tuple #[.agg #[.int .i64 3, .slice A' l.length c'], .bool true])) w' :=
 ⟨A', c', g', A, c, rfl, hg', hb4.grown hk (by intro e; injection e; omega), hbR.grown hk (by intro e; injection e; omega), hr4.grown hk (by intro e; injection e; omega), hg4.andThen hk (fun j hj => .inl (by injection hj; omega))⟩
theorem startLong_any (B bs g c off : Nat) (R : List UInt8) (k n e : Nat) (hn : R.length = n) (hR : n ≤ 1000000) (w : World) (lo : B ≤ bs ∧ B ≤ g ∧ g ≠ bs) (hw : B ≤ w.heap.size) (henv : EnvB B w) (hb : BRow g w (some ⟨g, off, none⟩) c R)
 (h : Raw bs (some ⟨g, off, none⟩) n c (k : Int) (e : Int) 0 (stFn 93 bs) w) (he : ZK R k = some e) (hl : 8192 < e - k) :
 Calls Tryz.prog 131 #[.pointer (some ⟨bs, 0, none⟩)] w (LgPost bs g (R.drop (e + 2)) ((R.drop k).take 8192) w) := by
 have hbs := h.lt
 have hle := hb.le
 have hlt := endOf_lt he
 have b0 := YB w (.cells #[.int .i64 0, .slice none 0 0] 62)
 have hm : Mark R e := (endOf_some.1 he).2.1
 have hd := hb.drop (k := k) (by omega)
 obtain ⟨off2, ho2⟩ := hd.some_of (by rw [List.length_drop]; omega)
 have he2 : ZK (R.drop k) (e - k) = some (e - k) := endOf_some.2 ⟨Nat.le_refl _, (mark_drop R k (e - k)).2 (by rw [show k + (e - k) = e by omega]; exact hm), fun j h1 h2 => by omega⟩
 have hdd : (R.drop k).drop (e - k + 2) = R.drop (e + 2) := by rw [List.drop_drop]; congr 1; omega
 have LG := Hi (fun (W : World) (ln dr : Int) (fn : Value) (hW : w.grownBy W (some bs)) (hr : Raw bs (some ⟨g, off2, none⟩) (n - k) (c - k) ln ((e - k : Nat) : Int) dr fn W) => by
  have := readLong_t B bs g (c - k) off2 (R.drop k) (n - k) (e - k) ln dr fn (by rw [List.length_drop]; omega) (by omega) W lo (Nat.le_trans hw hW.size) (henv.grown hW lo.1 hw) (ho2 ▸ hd.grown hW (by intro e; injection e; omega)) hr he2 (by omega)
  rw [hdd] at this
  exact this)
 have hsl : ∀ W, (Instr.slice 24 (.slice (some ⟨g, off, none⟩) n c) (some (.int .i64 (k : Int))) none none).run Tryz.prog W = .ok (.slice (some ⟨g, off2, none⟩) (n - k) (c - k)) W := fun W => by rw [slice_l (some ⟨g, off, none⟩) n c k (by omega) W, ho2]
 have hse := fun x lo hi mx W => YY x lo hi mx W
 have hw2 : (w.alloc (.cells #[.int .i64 0, .slice none 0 0] 62)).heap[w.heap.size]? = some (.cells #[.int .i64 0, .slice none 0 0] 62 (0, 0)) := YD _ _
 have H1 := Hi (h.grow b0)
 have G0 := Hi (YE (row := some bs) b0)
 have hd2 : IntKind.i64.wrap ((e : Int) - (k : Int)) = ((e - k : Nat) : Int) := by rw [Go.IntWalk.i64_in _ (by omega)]; omega
 have HN := Hi hn
 have HB := Hi hb
 have LO := Hi lo
 clear h he hn henv hb lo b0 hm hd ho2 he2 hdd
 go_enter Tryz.func131, Tryz.ntmps131
 go_wp2_with fail
 have hz : w.heap.size < (w.alloc (.cells #[.int .i64 0, .slice none 0 0] 62)).heap.size := by simp
 generalize w.alloc (.cells #[.int .i64 0, .slice none 0 0] 62) = w1 at *
 have c0 := H1.out.c0
 have c1 := H1.out.c1
 have c2 := H1.out.c2
 have c3 := H1.out.c3
 have c4 := H1.out.c4
 have f0 := H1.out.fz 0
 have f1 := H1.out.fz 1
 have f2 := H1.out.fz 2
 have f3 := H1.out.fz 3
 have f4 := H1.out.fz 4
 go_region
 go_wp2_with fail
 go_region
 go_wp2_with fail
 have R5 := Hi (((((H1.out.set0 (some ⟨g, off2, none⟩) (n - k) (c - k)).set3 (k : Int)).set2 ((e - k : Nat) : Int)).set1 0).set4 (stFn 171 bs)).drew.drew
 have G5 := Hi (QM (QM (YH (YH (YH (YH (YH (World.grownBy.refl w1 (some bs)) 0 (.slice (some ⟨g, off2, none⟩) (n - k) (c - k))) 3 (.int .i64 (k : Int))) 2 (.int .i64 ((e - k : Nat) : Int))) 1 (.int .i64 0)) 4 (stFn 171 bs))))
 have RB5 := Hi ((G5.out.block _ hz (fun e => by injection e; omega)).trans hw2)
 refine (LG.out _ _ _ _ (G0.out.trans G5.out) R5.out).mono ?_
 have HG5 := Hi (G0.out.trans G5.out)
 rintro e' w4 ⟨A', c', g', A, c, rfl, hg', hb4, hbR, hr4, hg4⟩
 have RB4 := Hi ((hg4.block _ (Array.getElem?_eq_some_iff.1 RB5.out).1 (fun e => by injection e; omega)).trans RB5.out)
 have HZ := Hi (Array.getElem?_eq_some_iff.1 RB5.out).1
 have k0 := cell_of_row _ _ 0 _ _ _ RB4.out
 have k1 := cell_of_row _ _ 1 _ _ _ RB4.out
 have kf0 := Joins.unfrozen_of_block RB4.out 0
 have kf1 := Joins.unfrozen_of_block RB4.out 1
 have HG' := Hi (Nat.le_trans HG5.out.size hg')
 have HB4 := Hi hb4
 have HBR := Hi hbR
 have HR4 := Hi hr4
 have HG4 := Hi (HG5.out.trans hg4)
 have HZ2 := Hi (show w.heap.size < g' from Nat.lt_of_lt_of_le HZ.out hg')
 clear hg' hb4 hr4 hg4 LG hbR R5 G5 RB5 HG5
 go_wp2_with fail
 refine bodyPost_ret (v := .tuple #[.agg #[.int .i64 3, .slice A' ((R.drop k).take 8192).length c'], .bool true]) (by simp [results, Tryz.results131, go_sem, k0, k1]) rfl ?_
 refine lg_end LO.out.2.2 hbs HG'.out HZ2.out HB4.out HBR.out HR4.out HG4.out ?_ ?_
 · obtain ⟨cs, hcs⟩ := brow_blk HB.out
   exact (Array.getElem?_eq_some_iff.1 hcs).1
 · repeat (first | exact World.grownBy.refl _ _ | refine YH ?_ _ _ | refine QA ?_ _ | refine QM ?_)
theorem lg_spl {B bs g g' c' c : Nat} {A A' : Option Addr} {R l : List UInt8} {w w4 w' : World} (lo : B ≤ bs ∧ B ≤ g ∧ g ≠ bs) (hw : B ≤ w.heap.size) (hbs : bs < w.heap.size) (henv : EnvB B w) (hg2 : w.heap.size < g') (hgw : g < w.heap.size) (hb4 : BRow g' w4 A' c' l) (hbR : BRow g w4 A c R)
 (hr4 : Raw bs A R.length c 0 0 0 (stFn 93 bs) w4) (hg4 : w.grownBy w4 (some bs)) (hk : w4.grownBy w' (some w.heap.size)) :
 FrD (w.heap.size ≤ ·) w' (.slice A' l.length c') l ∧ Spl B bs g R 0 w' ∧ w.grownBy w' (some bs) := by
 have g1 : w.grownBy w' (some bs) := hg4.andThen hk (fun j hj => .inl (by injection hj; omega))
 exact ⟨⟨A', c', g', rfl, hb4.grown hk (by intro e; injection e; omega), by omega⟩, ⟨lo, Nat.le_trans hw g1.size, henv.grown g1 lo.1 hw, A, c, hbR.grown hk (by intro e; injection e; omega), .inl ⟨0, ⟨Nat.le_refl _, Nat.zero_le _, fun j _ hj => absurd hj (Nat.not_lt_zero _)⟩, hr4.grown hk (by intro e; injection e; omega)⟩⟩, g1⟩
theorem rl_long (B bs g c : Nat) (A : Option Addr) (R : List UInt8) (k a n e : Nat) (hn : R.length = n) (hR : n ≤ 1000000) (w : World) (lo : B ≤ bs ∧ B ≤ g ∧ g ≠ bs) (hw : B ≤ w.heap.size) (henv : EnvB B w) (hb : BRow g w A c R)
 (hs : Scan R k a) (h : Raw bs A n c (k : Int) (a : Int) 0 (stFn 93 bs) w) (he : ZK R k = some e) (hsh : 8192 < e - k) :
 Calls Tryz.prog 93 #[.pointer (some ⟨bs, 0, none⟩)] w (NxPost B bs g R k w) := by
 have hbs := h.lt
 have hle := hb.le
 have hlt := endOf_lt he
 have hen : e ≤ 1000000 := by omega
 obtain ⟨off, rfl⟩ := hb.some_of (by omega)
 obtain ⟨cs, hcs⟩ := brow_blk hb
 have hgw := (Array.getElem?_eq_some_iff.1 hcs).1
 have b0 := YB w (.cells #[.int .i64 0, .slice none 0 0] 62)
 have SE := Hi (search_yes B bs g c _ R (k : Int) 0 _ a n e hn (by have := hs.2.1; omega) hR _ (by simp; omega) (henv.below (b0.mono hw)) (hb.grow b0) (h.grow b0) (by rw [← hs.endOf]; exact he))
 have SL := Hi (fun (W : World) (hE : EnvB B W) (hW : Raw bs (some ⟨g, off, none⟩) n c (k : Int) (e : Int) 0 (stFn 93 bs) W) (hB : BRow g W (some ⟨g, off, none⟩) c R) (hz : B ≤ W.heap.size) => startLong_any B bs g c off R k n e hn hR W lo hz hE hB hW he hsh)
 have HST := Hi (stepF_long he hsh)
 have HENV := Hi henv
 have HB := Hi hb
 have LO := Hi lo
 have B0 := Hi b0
 clear h hs he hn henv hb lo b0 hcs
 go_enter Tryz.func93, Tryz.ntmps93
 go_wp2_with fail
 refine SE.out.mono ?_
 rintro e' w1 ⟨rfl, hr, hg⟩
 have c1 := hr.out.c1
 have c2 := hr.out.c2
 have HX := Hi (res_block hg.out hbs)
 have G1 := Hi ((YE (row := some bs) B0.out).trans hg.out)
 have HB1 := Hi (HB.out.grown G1.out (fun e => LO.out.2.2 (Option.some.inj e)))
 have hd : IntKind.i64.wrap ((e : Int) - (k : Int)) = ((e - k : Nat) : Int) := by rw [Go.IntWalk.i64_in _ (by omega)]; omega
 have ht : decide ((8192 : Int) < ((e - k : Nat) : Int)) = true := by simp; omega
 have HZ1 := Hi (Array.getElem?_eq_some_iff.1 HX.out).1
 clear SE
 go_wp2_with fail
 go_quiet (fail)
 clear hd ht
 go_wp2_with fail
 refine (SL.out _ ((HENV.out.grown G1.out LO.out.1 hw).below (belDrawN (Below.refl _ _) _)) (hr.out.drewN _) (HB1.out.grow (belDrawN (Below.refl _ _) _)) (Nat.le_trans hw G1.out.size)).mono ?_
 rintro e' w4 ⟨A', c', g', A, c, rfl, hg', hb4, hbR, hr4, hg4⟩
 have RB4 := Hi ((hg4.block _ HZ1.out (fun e => by injection e; omega)).trans HX.out)
 have k0 := cell_of_row _ _ 0 _ _ _ RB4.out
 have k1 := cell_of_row _ _ 1 _ _ _ RB4.out
 have kf0 := Joins.unfrozen_of_block RB4.out 0
 have kf1 := Joins.unfrozen_of_block RB4.out 1
 have HG' := Hi hg'
 have HB4 := Hi hb4
 have HBR := Hi hbR
 have HR4 := Hi hr4
 have HG4 := Hi (G1.out.trans (World.grownBy.trans (YE (belDrawN (Below.refl w1.heap.size w1) _)) hg4))
 clear hg' hb4 hr4 hg4 SL hbR
 go_wp2_with fail
 refine bodyPost_ret (v := .tuple #[.agg #[.int .i64 3, .slice A' ((R.drop k).take 8192).length c'], .bool true]) (by simp [results, Tryz.results93, go_sem, k0, k1]) rfl ?_
 refine Or.inl ⟨_, _, _, _, HST.out, rfl, ?_⟩
 have hz1 : w.heap.size < w1.heap.size := HZ1.out
 have hz2 : w1.heap.size ≤ g' := HG'.out
 refine lg_spl LO.out hw hbs HENV.out (by omega) hgw HB4.out HBR.out HR4.out HG4.out ?_
 repeat (first | exact World.grownBy.refl _ _ | refine YH ?_ _ _ | refine QA ?_ _ | refine QM ?_)
theorem readLine_any (B bs g c : Nat) (A : Option Addr) (R : List UInt8) (k a n : Nat) (hn : R.length = n) (hR : n ≤ 1000000) (w : World) (lo : B ≤ bs ∧ B ≤ g ∧ g ≠ bs) (hw : B ≤ w.heap.size) (henv : EnvB B w) (hb : BRow g w A c R)
 (hs : Scan R k a) (h : Raw bs A n c (k : Int) (a : Int) 0 (stFn 93 bs) w) (hsh : ZK R k = none → n ≤ k + 8192) :
 Calls Tryz.prog 93 #[.pointer (some ⟨bs, 0, none⟩)] w (NxPost B bs g R k w) := by
 cases he : ZK R k with
 | none => exact rl_wait B bs g c A R k a n hn hR w lo hw henv hb hs h he (hsh he)
 | some e =>
   by_cases hl : 8192 < e - k
   · exact rl_long B bs g c A R k a n e hn hR w lo hw henv hb hs h he hl
   · cases ho : annOf ((R.take e).drop k) with
     | none => exact rl_cmd B bs g c A R k a n e hn hR w lo hw henv hb hs h he hl ho
     | some x =>
       by_cases hx : 65536 < x
       · exact rl_big B bs g c A R k a n e x hn hR w lo hw henv hb hs h he hl ho hx
       · exact rl_ready B bs g c A R k a n e x hn hR w lo hw henv hb hs h he hl ho hx
theorem readLit_wait (B bs g c : Nat) (A : Option Addr) (R : List UInt8) (k n : Nat) (ln : Int) (hn : R.length = n) (_hR : n ≤ 1000000) (w : World) (lo : B ≤ bs ∧ B ≤ g ∧ g ≠ bs) (hw : B ≤ w.heap.size) (henv : EnvB B w) (hb : BRow g w A c R)
 (h : Raw bs A n c ln (k : Int) 0 (stFn 134 bs) w) (hk : n < k) :
 Calls Tryz.prog 134 #[.pointer (some ⟨bs, 0, none⟩)] w (NxPost B bs g R k w) := by
 have hbs := h.lt
 have b0 := YB w (.cells #[.int .i64 0, .slice none 0 0] 62)
 have H1 := Hi (h.grow b0)
 have HN := Hi hn
 have HENV := Hi henv
 have HB := Hi hb
 have LO := Hi lo
 have B0 := Hi b0
 have c0 := h.c0
 have c2 := h.c2
 have ht : decide ((n : Int) < (k : Int)) = true := by simp; omega
 have ht2 : decide (n < k) = true := by simp; omega
 clear h hn henv hb lo b0
 go_enter Tryz.func134, Tryz.ntmps134
 go_wp2_with fail
 go_quiet (fail)
 go_wp2_with fail
 refine bodyPost_ret (v := .tuple #[.agg #[.int .i64 0, .slice none 0 0], .bool false]) (by simp [results, Tryz.results134, go_sem]) rfl ?_
 refine Or.inr ⟨endOf_past (by rw [HN.out]; omega), rfl, ?_⟩
 refine nx_end (w1 := w.alloc (.cells #[.int .i64 0, .slice none 0 0] 62)) LO.out hw hbs HENV.out B0.out HB.out HN.out (World.grownBy.refl _ _) (.inr ⟨ln, by rw [HN.out]; exact H1.out⟩) ?_
 repeat (first | exact World.grownBy.refl _ _ | refine YH ?_ _ _ | refine QA ?_ _ | refine QM ?_)
end Go.Proofs.YtpgfnlhfciacoaaGreatDoor
