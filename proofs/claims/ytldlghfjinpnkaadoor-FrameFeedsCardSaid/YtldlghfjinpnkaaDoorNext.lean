/- frame: readLine, readLiteral, Next. -/
import Derived.Test.YtldlghfjinpnkaaDoorReadD
import Derived.Test.YtldlghfjinpnkaaDoorLong
namespace Go.Proofs.YtldlghfjinpnkaaDoor
open Go.RowKit

set_option maxRecDepth 100000 in
set_option maxHeartbeats 4000000 in
theorem rl_long (B bs g c : Nat) (A : Option Addr) (R : List UInt8) (k a n e : Nat) (hn : R.length = n) (hR : n ≤ 1000000) (w : World) (lo : B ≤ bs ∧ B ≤ g ∧ g ≠ bs) (hw : B ≤ w.heap.size) (henv : EnvB B w) (hb : BRow g w A c R)
    (hs : Scan R k a) (h : Raw bs A n c (k : Int) (a : Int) 0 (stFn 19 bs) w) (he : endOf R k = some e) (hsh : 8192 < e - k) :
    Calls Tryd.prog 19 #[.pointer (some ⟨bs, 0, none⟩)] w (NxPost B bs g R k w) := by
  have hbs := h.lt
  have hle := hb.le
  have hlt := endOf_lt he
  have hen : e ≤ 1000000 := by omega
  obtain ⟨off, rfl⟩ := hb.some_of (by omega)
  obtain ⟨cs, hcs⟩ := brow_blk hb
  have hgw := (Array.getElem?_eq_some_iff.1 hcs).1
  have b0 := below_al w (.cells #[.int .i64 0, .slice none 0 0] 42)
  have SE := Lib.hid (search_yes B bs g c _ R (k : Int) 0 _ a n e hn (by have := hs.2.1; omega) hR _ (by simp; omega) (henv.below (b0.mono hw)) (hb.grow b0) (h.grow b0) (by rw [← hs.endOf]; exact he))
  have SL := Lib.hid (fun (W : World) (hE : EnvB B W) (hW : Raw bs (some ⟨g, off, none⟩) n c (k : Int) (e : Int) 0 (stFn 19 bs) W) (hB : BRow g W (some ⟨g, off, none⟩) c R) (hz : B ≤ W.heap.size) => startLong_any B bs g c off R k n e hn hR W lo hz hE hB hW he hsh)
  have HST := Lib.hid (stepF_long he hsh)
  have HENV := Lib.hid henv
  have HB := Lib.hid hb
  have LO := Lib.hid lo
  have B0 := Lib.hid b0
  clear h hs he hn henv hb lo b0 hcs
  go_enter Tryd.func19, Tryd.ntmps19
  go_wp2_with fail
  refine SE.out.mono ?_
  rintro e' w1 ⟨rfl, hr, hg⟩
  have c1 := hr.out.c1
  have c2 := hr.out.c2
  have HX := Lib.hid (res_block hg.out hbs)
  have G1 := Lib.hid ((grown_of_below (row := some bs) B0.out).trans hg.out)
  have HB1 := Lib.hid (HB.out.grown G1.out (fun e => LO.out.2.2 (Option.some.inj e)))
  have hd : IntKind.i64.wrap ((e : Int) - (k : Int)) = ((e - k : Nat) : Int) := by rw [Go.IntWalk.i64_in _ (by omega)]; omega
  have ht : decide ((8192 : Int) < ((e - k : Nat) : Int)) = true := by simp; omega
  have HZ1 := Lib.hid (Array.getElem?_eq_some_iff.1 HX.out).1
  clear SE
  go_wp2_with fail
  go_quiet (fail)
  clear hd ht
  go_wp2_with fail
  refine (SL.out _ ((HENV.out.grown G1.out LO.out.1 hw).below (belDrawN (Below.refl _ _) _)) (hr.out.drewN _) (HB1.out.grow (belDrawN (Below.refl _ _) _)) (Nat.le_trans hw G1.out.size)).mono ?_
  rintro e' w4 ⟨A', c', g', A, c, rfl, hg', hb4, hbR, hr4, hg4⟩
  have RB4 := Lib.hid ((hg4.block _ HZ1.out (fun e => by injection e; omega)).trans HX.out)
  have k0 := cell_of_row _ _ 0 _ _ _ RB4.out
  have k1 := cell_of_row _ _ 1 _ _ _ RB4.out
  have kf0 := Joins.unfrozen_of_block RB4.out 0
  have kf1 := Joins.unfrozen_of_block RB4.out 1
  have HG' := Lib.hid hg'
  have HB4 := Lib.hid hb4
  have HBR := Lib.hid hbR
  have HR4 := Lib.hid hr4
  have HG4 := Lib.hid (G1.out.trans (World.grownBy.trans (grown_of_below (belDrawN (Below.refl w1.heap.size w1) _)) hg4))
  clear hg' hb4 hr4 hg4 SL hbR
  go_wp2_with fail
  refine bodyPost_ret (v := .tuple #[.agg #[.int .i64 3, .slice A' ((R.drop k).take 8192).length c'], .bool true]) (by simp [results, Tryd.results19, go_sem, k0, k1]) rfl ?_
  refine Or.inl ⟨_, _, _, _, HST.out, rfl, ?_⟩
  have hz1 : w.heap.size < w1.heap.size := HZ1.out
  have hz2 : w1.heap.size ≤ g' := HG'.out
  refine lg_spl LO.out hw hbs HENV.out (by omega) hgw HB4.out HBR.out HR4.out HG4.out ?_
  repeat (first | exact World.grownBy.refl _ _ | refine grown_set ?_ _ _ | refine grown_drawN ?_ _ | refine grown_draw ?_)

theorem readLine_any (B bs g c : Nat) (A : Option Addr) (R : List UInt8) (k a n : Nat) (hn : R.length = n) (hR : n ≤ 1000000) (w : World) (lo : B ≤ bs ∧ B ≤ g ∧ g ≠ bs) (hw : B ≤ w.heap.size) (henv : EnvB B w) (hb : BRow g w A c R)
    (hs : Scan R k a) (h : Raw bs A n c (k : Int) (a : Int) 0 (stFn 19 bs) w) (hsh : endOf R k = none → n ≤ k + 8192) :
    Calls Tryd.prog 19 #[.pointer (some ⟨bs, 0, none⟩)] w (NxPost B bs g R k w) := by
  cases he : endOf R k with
  | none => exact rl_wait B bs g c A R k a n hn hR w lo hw henv hb hs h he (hsh he)
  | some e =>
    by_cases hl : 8192 < e - k
    · exact rl_long B bs g c A R k a n e hn hR w lo hw henv hb hs h he hl
    · cases ho : annOf ((R.take e).drop k) with
      | none => exact rl_cmd B bs g c A R k a n e hn hR w lo hw henv hb hs h he hl ho
      | some x =>
        by_cases hx : 65536 < x
        · exact rl_big B bs g c A R k a n e x hn hR w lo hw henv hb hs h he hl ho hx
        · exact rl_ready B bs g c A R k a n e x hn hR w lo hw henv hb hs h he hl ho hx

set_option maxRecDepth 100000 in
set_option maxHeartbeats 4000000 in
theorem readLit_wait (B bs g c : Nat) (A : Option Addr) (R : List UInt8) (k n : Nat) (ln : Int) (hn : R.length = n) (_hR : n ≤ 1000000) (w : World) (lo : B ≤ bs ∧ B ≤ g ∧ g ≠ bs) (hw : B ≤ w.heap.size) (henv : EnvB B w) (hb : BRow g w A c R)
    (h : Raw bs A n c ln (k : Int) 0 (stFn 36 bs) w) (hk : n < k) :
    Calls Tryd.prog 36 #[.pointer (some ⟨bs, 0, none⟩)] w (NxPost B bs g R k w) := by
  have hbs := h.lt
  have b0 := below_al w (.cells #[.int .i64 0, .slice none 0 0] 42)
  have H1 := Lib.hid (h.grow b0)
  have HN := Lib.hid hn
  have HENV := Lib.hid henv
  have HB := Lib.hid hb
  have LO := Lib.hid lo
  have B0 := Lib.hid b0
  have c0 := h.c0
  have c2 := h.c2
  have ht : decide ((n : Int) < (k : Int)) = true := by simp; omega
  have ht2 : decide (n < k) = true := by simp; omega
  clear h hn henv hb lo b0
  go_enter Tryd.func36, Tryd.ntmps36
  go_wp2_with fail
  go_quiet (fail)
  go_wp2_with fail
  refine bodyPost_ret (v := .tuple #[.agg #[.int .i64 0, .slice none 0 0], .bool false]) (by simp [results, Tryd.results36, go_sem]) rfl ?_
  refine Or.inr ⟨endOf_past (by rw [HN.out]; omega), rfl, ?_⟩
  refine nx_end (w1 := w.alloc (.cells #[.int .i64 0, .slice none 0 0] 42)) LO.out hw hbs HENV.out B0.out HB.out HN.out (World.grownBy.refl _ _) (.inr ⟨ln, by rw [HN.out]; exact H1.out⟩) ?_
  repeat (first | exact World.grownBy.refl _ _ | refine grown_set ?_ _ _ | refine grown_drawN ?_ _ | refine grown_draw ?_)
end Go.Proofs.YtldlghfjinpnkaaDoor
