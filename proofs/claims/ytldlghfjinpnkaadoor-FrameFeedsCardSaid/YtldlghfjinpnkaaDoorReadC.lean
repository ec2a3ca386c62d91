/- frame: readLine where a line ends that is not too long. -/
import Derived.Test.YtldlghfjinpnkaaDoorRead
import Derived.StillTailTactics
namespace Go.Proofs.YtldlghfjinpnkaaDoor
open Go.RowKit

theorem keep3 {w W : World} {b : Nat} {u v x : Value} (hlt : b < w.heap.size) (h0 : w.cell? ⟨b, 0, none⟩ = some u) (h1 : w.cell? ⟨b, 1, none⟩ = some v) (h2 : w.cell? ⟨b, 2, none⟩ = some x) (h : Below w.heap.size w W) : W.cell? ⟨b, 0, none⟩ = some u ∧ W.cell? ⟨b, 1, none⟩ = some v ∧ W.cell? ⟨b, 2, none⟩ = some x ∧ Below w.heap.size w W :=
  ⟨(h.cell (p := ⟨b, 0, none⟩) hlt).trans h0, (h.cell (p := ⟨b, 1, none⟩) hlt).trans h1, (h.cell (p := ⟨b, 2, none⟩) hlt).trans h2, h⟩

/-- The end of a call that ends a command. -/
theorem nx_last {B bs g c n e g' c' : Nat} {A A' : Option Addr} {R l : List UInt8} {w w3 w4 w' : World} (lo : B ≤ bs ∧ B ≤ g ∧ g ≠ bs) (hw : B ≤ w.heap.size) (hbs : bs < w.heap.size) (henv : EnvB B w) (hb : BRow g w A c R) (hn : R.length = n) (he : e + 2 ≤ n)
    (g3 : w.grownBy w3 (some bs)) (hg' : w3.heap.size ≤ g') (hb4 : BRow g' w4 A' c' l) (hr4 : Raw bs (offA A c (e + 2)) (n - (e + 2)) (c - (e + 2)) 0 0 0 (stFn 19 bs) w4) (hg4 : w3.grownBy w4 (some bs)) (hz : w.heap.size < w3.heap.size) (hk : w4.grownBy w' (some w.heap.size)) :
    FrD (w.heap.size ≤ ·) w' (.slice A' l.length c') l ∧ Spl B bs g (R.drop (e + 2)) 0 w' ∧ w.grownBy w' (some bs) := by
  have g1 : w.grownBy w' (some bs) := (g3.trans hg4).andThen hk (fun j hj => .inl (by injection hj; omega))
  refine ⟨⟨A', c', g', rfl, hb4.grown hk (by intro e; injection e; omega), by omega⟩, ⟨lo, Nat.le_trans hw g1.size, henv.grown g1 lo.1 hw, _, _, (hb.grown g1 (by intro e; injection e; omega)).drop (by omega), .inl ⟨0, ⟨Nat.le_refl _, Nat.zero_le _, fun j _ hj => absurd hj (Nat.not_lt_zero _)⟩, ?_⟩⟩, g1⟩
  have := hr4.grown hk (by intro e; injection e; omega)
  rw [List.length_drop, hn]
  exact this

/-- What is announced, at a cut of the buffer. -/
theorem announced_cut (g c : Nat) (A : Option Addr) (R : List UInt8) (k e : Nat) (hk : k ≤ e) (he : e ≤ R.length) (hR : R.length ≤ 1000000) (o : Option Nat) (ho : annOf ((R.take e).drop k) = o) (w : World) (henv : Env w) (hb : BRow g w A c R) :
    Calls Tryd.prog 34 #[.slice (offA A c k) (e - k) (c - k)] w fun e' w' => e' = .returned (.tuple #[.int .i64 ((o.getD 0 : Nat) : Int), .bool o.isSome]) ∧ Below w.heap.size w w' := by
  have hl : ((R.take e).drop k).length = e - k := cut_len he
  have := announced_any w.heap.size (c - k) (offA A c k) ((R.take e).drop k) (by omega) w henv (hb.by.cut hk he)
  rw [hl] at this
  refine this.mono ?_
  rintro e' w' ⟨⟨o', h1, rfl⟩, h2⟩
  rw [isAnn_eq h1 (isAnn_of _), ho]
  exact ⟨rfl, h2⟩

set_option maxRecDepth 100000 in
set_option maxHeartbeats 4000000 in
theorem rl_cmd (B bs g c : Nat) (A : Option Addr) (R : List UInt8) (k a n e : Nat) (hn : R.length = n) (hR : n ≤ 1000000) (w : World) (lo : B ≤ bs ∧ B ≤ g ∧ g ≠ bs) (hw : B ≤ w.heap.size) (henv : EnvB B w) (hb : BRow g w A c R)
    (hs : Scan R k a) (h : Raw bs A n c (k : Int) (a : Int) 0 (stFn 19 bs) w) (he : endOf R k = some e) (hsh : ¬ 8192 < e - k) (ho : annOf ((R.take e).drop k) = none) :
    Calls Tryd.prog 19 #[.pointer (some ⟨bs, 0, none⟩)] w (NxPost B bs g R k w) := by
  have hbs := h.lt
  have hle := hb.le
  have hlt := endOf_lt he
  obtain ⟨off, rfl⟩ := hb.some_of (by omega)
  have b0 := below_al w (.cells #[.int .i64 0, .slice none 0 0] 42)
  have SE := Lib.hid (search_yes B bs g c _ R (k : Int) 0 _ a n e hn (by have := hs.2.1; omega) hR _ (by simp; omega) (henv.below (b0.mono hw)) (hb.grow b0) (h.grow b0) (by rw [← hs.endOf]; exact he))
  have AN := Lib.hid (fun W (hE : Env W) (hB : BRow g W (some ⟨g, off, none⟩) c R) => announced_cut g c _ R k e hlt.1 (by omega) (by omega) none ho W hE hB)
  have LA := Lib.hid (fun (W : World) (hW : Raw bs (some ⟨g, off, none⟩) n c (k : Int) (e : Int) 0 (stFn 19 bs) W) (hB : BRow g W (some ⟨g, off, none⟩) c R) => last_any bs n c (some ⟨g, off, none⟩) (k : Int) 0 1 _ e (by omega) hR W hW ⟨g, off, none⟩ c e (R.take e) (by rw [List.length_take]; omega) (by omega) W.heap.size (hB.take (by omega)).by)
  have hka := hs.1
  have HST := Lib.hid (stepF_command he hsh ho)
  have HN := Lib.hid hn
  have HENV := Lib.hid henv
  have HB := Lib.hid hb
  have LO := Lib.hid lo
  have B0 := Lib.hid b0
  have hsl := fun W => slice_lh (some ⟨g, off, none⟩) n c k e hlt.1 (by omega) W
  have hsl2 := fun W => slice_h (some ⟨g, off, none⟩) n c e (by omega) W
  have hse := fun x lo hi mx W => sliceAt_eq x lo hi mx W
  clear h hs he hn henv hb lo b0 ho
  go_enter Tryd.func19, Tryd.ntmps19
  go_wp2_with fail
  refine SE.out.mono ?_
  rintro e' w1 ⟨rfl, hr, hg⟩
  have c0 := hr.out.c0
  have c1 := hr.out.c1
  have c2 := hr.out.c2
  have hb1 : bs < w1.heap.size := hr.out.lt
  have HX := Lib.hid (res_block hg.out hbs)
  have G1 := Lib.hid ((grown_of_below (row := some bs) B0.out).trans hg.out)
  have HB1 := Lib.hid (HB.out.grown G1.out (fun e => LO.out.2.2 (Option.some.inj e)))
  have AN : ∀ W, Below w1.heap.size w1 W → Calls Tryd.prog 34 #[.slice (offA (some ⟨g, off, none⟩) c k) (e - k) (c - k)] W fun e' w' => e' = .returned (.tuple #[.int .i64 ((Option.getD (none : Option Nat) 0 : Nat) : Int), .bool (none : Option Nat).isSome]) ∧ Below w1.heap.size w1 w' := fun W hW => by
    refine (AN.out W ((HENV.out.grown G1.out LO.out.1 hw).below (hW.mono (by have := G1.out.size; omega))).env (HB1.out.grow hW)).mono ?_
    rintro e' w' ⟨h1, h2⟩
    exact ⟨h1, below_next hW h2⟩
  have AN := Lib.hid AN
  have hd : IntKind.i64.wrap ((e : Int) - (k : Int)) = ((e - k : Nat) : Int) := by rw [Go.IntWalk.i64_in _ (by omega)]; omega
  have ht : decide ((8192 : Int) < ((e - k : Nat) : Int)) = false := by simp; omega
  clear SE
  go_wp2_with fail
  go_quiet (fail)
  clear hd ht
  go_wp2_with fail
  go_region_held3 (fun w' => w'.cell? ⟨bs, 0, none⟩ = some (.slice (some ⟨g, off, none⟩) n c) ∧ w'.cell? ⟨bs, 1, none⟩ = some (.int .i64 (k : Int)) ∧ w'.cell? ⟨bs, 2, none⟩ = some (.int .i64 (e : Int)) ∧ Below w1.heap.size w1 w')
    ((refine keep3 hb1 c0 c1 c2 ?_; repeat (first | assumption | exact Below.refl _ _ | refine belDrawN ?_ _ | refine belDraw ?_ | refine belAlloc ?_ _)))
    ((go_at_call 34; refine (AN.out _ (by repeat (first | assumption | exact Below.refl _ _ | refine belDrawN ?_ _ | refine belDraw ?_ | refine belAlloc ?_ _))).mono ?_; rintro e' w2 ⟨rfl, hb2⟩))
  have HB2 := Lib.hid hb2
  have R2 := Lib.hid (hr.out.grow hb2)
  have BR2 := Lib.hid (HB1.out.grow hb2)
  have RB2 := Lib.hid ((hb2.block _ (Array.getElem?_eq_some_iff.1 HX.out).1).trans HX.out)
  clear c0 c1 c2 hb2 AN hr
  have c0 := R2.out.c0
  have c2 := R2.out.c2
  go_wp2_with fail
  go_still_tail 10, (by kernel_rfl)
  change wpList _ _ _ _ _ w2.drew
  have R3 := Lib.hid R2.out.drew
  have BR3 := Lib.hid (BR2.out.grow (belDraw (Below.refl _ w2)))
  have RB3 := Lib.hid (show w2.drew.heap[w.heap.size]? = _ from RB2.out)
  have B3 := Lib.hid (belDraw HB2.out)
  clear HB2 R2 BR2 RB2
  generalize w2.drew = w3 at *
  go_wp2_with fail
  refine (LA.out _ R3.out BR3.out).mono ?_
  rintro e' w4 ⟨A', c', g', rfl, hg', hb4, hr4, hg4⟩
  have RB4 := Lib.hid ((hg4.block _ (Array.getElem?_eq_some_iff.1 RB3.out).1 (fun e => by injection e; omega)).trans RB3.out)
  have G3 := Lib.hid (G1.out.trans (grown_of_below B3.out))
  have HZ := Lib.hid (Array.getElem?_eq_some_iff.1 RB3.out).1
  have k0 := cell_of_row _ _ 0 _ _ _ RB4.out
  have k1 := cell_of_row _ _ 1 _ _ _ RB4.out
  have kf0 := Joins.unfrozen_of_block RB4.out 0
  have kf1 := Joins.unfrozen_of_block RB4.out 1
  have HG' := Lib.hid hg'
  have HB4 := Lib.hid hb4
  have HR4 := Lib.hid hr4
  have HG4 := Lib.hid hg4
  have HLE := Lib.hid (show e + 2 ≤ n by rw [← HN.out]; omega)
  clear hg' hb4 hr4 hg4 LA
  go_wp2_with fail
  refine bodyPost_ret (v := .tuple #[.agg #[.int .i64 1, .slice A' (R.take e).length c'], .bool true]) (by simp [results, Tryd.results19, go_sem, k0, k1]) rfl ?_
  refine Or.inl ⟨_, _, _, _, HST.out, rfl, ?_⟩
  refine nx_last LO.out hw hbs HENV.out HB.out HN.out HLE.out G3.out HG'.out HB4.out HR4.out HG4.out HZ.out ?_
  repeat (first | exact World.grownBy.refl _ _ | refine grown_set ?_ _ _ | refine grown_drawN ?_ _ | refine grown_draw ?_)
end Go.Proofs.YtldlghfjinpnkaaDoor
