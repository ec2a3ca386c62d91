/- uid: the law UidTakes, its walk. -/
import Derived.Test.YtdnmkmmicadnfaaL11S
import Derived.Test.YtdnmkmmicadnfaaUdR
import Derived.Test.YtdnmkmmicadnfaaSl
import Derived.Test.YtdnmkmmicadnfaaSeqMath
import Derived.IntWalk
import Derived.Deep.RegionHeld3
import Derived.Deep.LoopGhost
import Derived.Deep.Cut
import Derived.Deep.DeepCutAuto
namespace Go.Proofs.Ytdnmkmmicadnfaa
open Go.RowKit

/-- Both counters have the same numbers; below the world of the beginning nothing has turned. -/
def TkS (g r : Nat) (F N T : Int) (a w : World) : Prop := Ctr g F N T w ∧ RCt r F N T w ∧ Below a.heap.size a w
theorem tkDraw {g r : Nat} {F N T : Int} {a w : World} (h : TkS g r F N T a w) : TkS g r F N T a w.drew := ⟨h.1.grow (below_drew 1), h.2.1, h.2.2.drew⟩
theorem tkDrawN {g r : Nat} {F N T : Int} {a w : World} (h : TkS g r F N T a w) (n : Nat) : TkS g r F N T a (w.drewN n) :=
  ⟨h.1.grow (below_drew n), h.2.1, h.2.2.trans ((below_drew n).mono h.2.2.size)⟩
theorem tk_valid {g r : Nat} {F N T : Int} {a : World} (hg : a.heap.size ≤ g) (hgr : r ≠ g) (W : World) (h : TkS g r F N T a W) :
    Calls Try.prog 19 #[.pointer (some ⟨g, 0, none⟩)] W fun e w' => e = .returned (.int .u32 F) ∧ TkS g r F N T a w' :=
  (valid_any g F N T W h.1).mono fun _ _ ⟨he, hq⟩ => ⟨he, hq.out.1, h.2.1.other hq.out.2 hgr, h.2.2.trans (below_grown hq.out.2 hg h.2.2.size)⟩
theorem take_full' (g : Nat) (F N T : Int) (hN : N = 4294967295) (w : World) (h : Ctr g F N T w) :
    Calls Try.prog 12 #[.pointer (some ⟨g, 0, none⟩)] w fun e w' => e = .returned (.tuple #[.int .u32 0, .int .i64 6]) ∧ w = w' := by
  subst hN
  exact take_full g F T w h
theorem tk_cells {g r : Nat} {F N T : Int} {a W : World} (h : TkS g r F N T a W) :
    W.cell? ⟨r, 0, none⟩ = some (.int .u64 F) ∧ W.cell? ⟨r, 1, none⟩ = some (.int .u64 N) ∧ W.cell? ⟨r, 2, none⟩ = some (.int .u64 T) ∧ TkS g r F N T a W := ⟨h.2.1.c.1, h.2.1.c.2.1, h.2.1.c.2.2, h⟩

set_option maxRecDepth 100000 in
set_option maxHeartbeats 2000000 in
theorem uidTakes_any (n : Nat) (hn : n ≤ 4294967295) (A : Option Addr) (c : Nat) (l : List Nat) (hl : l.length ≤ maxLen) (hb : ∀ x ∈ l, x ≤ 4294967295) (w : World) (hS : SlAt encU 1 w A l) :
    Calls Try.prog 3 #[.int .u32 n, .slice A l.length c] w fun e w' => e = .returned (.bool true) ∧ Below w.heap.size w w' := by
  unfold maxLen at hl
  by_cases g0 : 200 < l.length
  · have e0 : decide (200 < l.length) = true := by simpa using g0
    have e1 : decide ((200 : Int) < (l.length : Int)) = true := by simp; omega
    have AL := Lib.hid (alive11_any w)
    clear hb hS
    generalize l.length = n0 at *
    go_enter Try.func3, Try.ntmps3
    go_wp2_with fail
    refine AL.out.mono ?_
    rintro e w1 ⟨rfl, hb⟩
    go_wp2_with fail
    go_ret
    exact ⟨rfl, hb⟩
  have e0 : decide (200 < l.length) = false := by simpa using g0
  have e1 : decide ((200 : Int) < (l.length : Int)) = false := by simp; omega
  have hl2 : l.length ≤ 200 := by omega
  obtain ⟨m, hm, m1, m2⟩ := first_of n
  have m2 := m2 hn
  have NW := Lib.hid (new_any n m (by omega) (by omega) hm w)
  have RN := Lib.hid (fun W => rnew_any n m (by omega) (by omega) hm W)
  have HS := Lib.hid hS
  have HB := Lib.hid hb
  clear hm hb hS hl g0
  go_enter Try.func3, Try.ntmps3
  go_wp2_with fail
  refine NW.out.mono ?_
  rintro e w1 ⟨rfl, h1, hb1⟩
  have H1 := h1
  have HB1 := Lib.hid hb1
  have RN := Lib.hid (RN.out w1)
  clear h1 hb1 NW
  go_wp2_with fail
  refine RN.out.mono ?_
  rintro e w2 ⟨rfl, hb2⟩
  have HR : Hid (RCt w2.heap.size m m 0 (w2.alloc (.cells #[.int .u64 (m : Int), .int .u64 (m : Int), .int .u64 0] 29))) := heap_alloc_new _ _
  have HB2 := Lib.hid (HB1.out.trans (hb2.mono HB1.out.size))
  have H2 := Lib.hid (H1.out.grow hb2)
  obtain ⟨r, hr⟩ : ∃ r, w2.heap.size = r := ⟨_, rfl⟩
  have hrg : r ≠ w.heap.size := by have := H2.out.lt; omega
  have hra : w.heap.size ≤ r := by have := H2.out.lt; omega
  have HT : Hid (TkS w.heap.size r m m (0 : Nat) w (w2.alloc (.cells #[.int .u64 (m : Int), .int .u64 (m : Int), .int .u64 0] 29))) :=
    ⟨H2.out.grow ((Below.refl _ _).alloc (Nat.le_refl _) _), hr ▸ HR.out, HB2.out.alloc HB2.out.size _⟩
  have hgw : w.heap.size ≤ w.heap.size := Nat.le_refl _
  clear hb2 HR HB2 H2 HB1 H1 RN
  go_wp2_with fail
  go_loopg [25] l.length (fun gg i wr => ∃ (k N T : Nat), i = .int .i64 (k : Int) ∧ k ≤ l.length ∧ l.length - k ≤ gg ∧ 1 ≤ N ∧ N ≤ 4294967295 ∧ T ≤ k ∧ Hid (TkS w.heap.size r m N T w wr))
  case atStart => exact ⟨0, m, 0, rfl, Nat.zero_le _, Nat.le_refl _, m1, m2, Nat.le_refl _, HT⟩
  case round =>
    clear HT hr
    obtain ⟨k, N, T, rfl, hkl, hgg, hN1, hN2, hTk, hT⟩ := hrel
    have hgr2 := hT.out.2.2.size
    by_cases hlt : k < l.length
    · have f0 : decide (k < l.length) = true := by simpa using hlt
      obtain ⟨b, off, rfl, hbz, hcl⟩ := (HS.out.below hT.out.2.2).at_ hlt
      have hx : l[k] ≤ 4294967295 := HB.out _ (List.getElem_mem hlt)
      have c0 : wr.cell? ⟨b, off + k, none⟩ = some (.int .u32 (l[k] : Int)) := by simpa using hcl 0 (.int .u32 (l[k] : Int)) rfl
      generalize l[k] = x at *
      clear hcl HS HB
      by_cases x0 : x = 0
      · subst x0
        by_cases hM : N = 4294967295
        · have TF := Lib.hid (take_full' w.heap.size m N T (by omega) wr hT.out.1)
          have RF := Lib.hid (rtake_full r m N T (by omega) wr hT.out.2.1)
          clear hM
          go_wp2_with (first | (go_at_call 12; refine TF.out.mono ?_; rintro e w9 ⟨rfl, rfl⟩) | (go_at_call 13; refine RF.out.mono ?_; rintro e w9 ⟨rfl, rfl⟩))
          have KS := Lib.hid (fun W (h : TkS w.heap.size r m N T w W) => tk_cells h)
          have NX := Lib.hid (fun W (h : TkS w.heap.size r m N T w W) => next_any w.heap.size m N T W h.1)
          have LF := Lib.hid (fun W (h : TkS w.heap.size r m N T w W) => left_any w.heap.size m N T (by omega) (by omega) W h.1)
          have TA := Lib.hid (fun W (h : TkS w.heap.size r m N T w W) => taken_any w.heap.size m N T W h.1)
          have VL := Lib.hid (fun W (h : TkS w.heap.size r m N T w W) => tk_valid hgw hrg W h)
          have b1 : (0 : Int) ≤ N := by omega
          have b2 : (N : Int) ≤ 4294967295 := by omega
          have b3 : (0 : Int) ≤ 4294967295 - N := by omega
          have b4 : (4294967295 - N : Int) ≤ 4294967295 := by omega
          have e7 : IntKind.u64.wrap (4294967295 - N : Int) = 4294967295 - N := IntWalk.u64_in _ (by omega)
          have e8 : IntKind.u64.wrap (N : Int) = N := IntWalk.u64_in _ (by omega)
          have e9 : IntKind.u64.wrap (m : Int) = m := IntWalk.u64_in _ (by omega)
          go_upto_region 16 with (fail)
          go_cut [84] (fun s84 wx => s84 = .bool false ∧ Hid (TkS w.heap.size r m N T w wx))
          case first =>
            go_region_held3 (fun w' => w'.cell? ⟨r, 0, none⟩ = some (.int .u64 m) ∧ w'.cell? ⟨r, 1, none⟩ = some (.int .u64 N) ∧ w'.cell? ⟨r, 2, none⟩ = some (.int .u64 T) ∧ TkS w.heap.size r m N T w w')
              ((refine KS.out _ ?_; (repeat (first | assumption | refine tkDrawN ?_ _ | refine tkDraw ?_))))
              (first
                | (go_at_call 16; (with_reducible refine (NX.out _ ?_).mono ?_); (focus (repeat (first | assumption | refine tkDrawN ?_ _ | refine tkDraw ?_))); rintro e' w7 ⟨rfl, rfl⟩)
                | (go_at_call 17; (with_reducible refine (LF.out _ ?_).mono ?_); (focus (repeat (first | assumption | refine tkDrawN ?_ _ | refine tkDraw ?_))); rintro e' w7 ⟨rfl, rfl⟩)
                | (go_at_call 18; (with_reducible refine (TA.out _ ?_).mono ?_); (focus (repeat (first | assumption | refine tkDrawN ?_ _ | refine tkDraw ?_))); rintro e' w7 ⟨rfl, rfl⟩)
                | (go_at_call 19; (with_reducible refine (VL.out _ ?_).mono ?_); (focus (repeat (first | assumption | refine tkDrawN ?_ _ | refine tkDraw ?_))); rintro e' w7 ⟨rfl, hT7⟩))
            all_goals
              rename_i hH
              go_wp2_with fail
              go_meet
              exact ⟨rfl, Lib.hid hH.2.2.2⟩
          case rest =>
            obtain ⟨rfl, hT9⟩ := hcut
            clear e7 e8 e9 KS NX LF TA VL
            go_wp2_with fail
            go_roundg (l.length - (k + 1))
            case measure => omega
            case rel => exact ⟨k + 1, N, T, by go_num, by omega, by omega, by omega, by omega, by omega, hT9⟩
        · have TO := Lib.hid (take_ok w.heap.size m N T (by omega) (by omega) (by omega) (by omega) wr hT.out.1)
          go_upto_region 10 with (fail)
          go_wp2_with fail
          refine TO.out.mono ?_
          rintro e w3 ⟨rfl, h3⟩
          have RO := Lib.hid (rtake_ok r m N T (by omega) (by omega) (by omega) (by omega) w3 (hT.out.2.1.other h3.out.2 hrg))
          have H3 := h3
          clear h3 TO
          go_wp2_with fail
          refine RO.out.mono ?_
          rintro e w4 ⟨rfl, h4⟩
          obtain ⟨N', hN'⟩ : ∃ N' : Nat, N' = N + 1 := ⟨_, rfl⟩
          obtain ⟨T', hT'⟩ : ∃ T' : Nat, T' = T + 1 := ⟨_, rfl⟩
          have HT4 : Hid (TkS w.heap.size r m N' T' w w4) := by
            rw [show ((N' : Nat) : Int) = (N : Int) + 1 by omega, show ((T' : Nat) : Int) = (T : Int) + 1 by omega]
            exact ⟨H3.out.1.other h4.out.2 (fun e => hrg e.symm), h4.out.1, (hT.out.2.2.trans (below_grown H3.out.2 hgw hT.out.2.2.size)).trans (below_grown h4.out.2 hra (Nat.le_trans hT.out.2.2.size H3.out.2.size))⟩
          have hN2' : 1 ≤ N' := by omega
          have hN3' : N' ≤ 4294967295 := by omega
          have hT2' : T' ≤ k + 1 := by omega
          clear hN' hT' h4 H3 RO
          have KS := Lib.hid (fun W (h : TkS w.heap.size r m N' T' w W) => tk_cells h)
          have NX := Lib.hid (fun W (h : TkS w.heap.size r m N' T' w W) => next_any w.heap.size m N' T' W h.1)
          have LF := Lib.hid (fun W (h : TkS w.heap.size r m N' T' w W) => left_any w.heap.size m N' T' (by omega) (by omega) W h.1)
          have TA := Lib.hid (fun W (h : TkS w.heap.size r m N' T' w W) => taken_any w.heap.size m N' T' W h.1)
          have VL := Lib.hid (fun W (h : TkS w.heap.size r m N' T' w W) => tk_valid hgw hrg W h)
          have b1 : (0 : Int) ≤ N' := by omega
          have b2 : (N' : Int) ≤ 4294967295 := by omega
          have b3 : (0 : Int) ≤ 4294967295 - N' := by omega
          have b4 : (4294967295 - N' : Int) ≤ 4294967295 := by omega
          have e7 : IntKind.u64.wrap (4294967295 - N' : Int) = 4294967295 - N' := IntWalk.u64_in _ (by omega)
          have e8 : IntKind.u64.wrap (N' : Int) = N' := IntWalk.u64_in _ (by omega)
          have e9 : IntKind.u64.wrap (m : Int) = m := IntWalk.u64_in _ (by omega)
          go_upto_region 16 with (fail)
          go_cut [84] (fun s84 wx => s84 = .bool false ∧ Hid (TkS w.heap.size r m N' T' w wx))
          case first =>
            go_region_held3 (fun w' => w'.cell? ⟨r, 0, none⟩ = some (.int .u64 m) ∧ w'.cell? ⟨r, 1, none⟩ = some (.int .u64 N') ∧ w'.cell? ⟨r, 2, none⟩ = some (.int .u64 T') ∧ TkS w.heap.size r m N' T' w w')
              ((refine KS.out _ ?_; (repeat (first | assumption | refine tkDrawN ?_ _ | refine tkDraw ?_))))
              (first
                | (go_at_call 16; (with_reducible refine (NX.out _ ?_).mono ?_); (focus (repeat (first | assumption | refine tkDrawN ?_ _ | refine tkDraw ?_))); rintro e' w7 ⟨rfl, rfl⟩)
                | (go_at_call 17; (with_reducible refine (LF.out _ ?_).mono ?_); (focus (repeat (first | assumption | refine tkDrawN ?_ _ | refine tkDraw ?_))); rintro e' w7 ⟨rfl, rfl⟩)
                | (go_at_call 18; (with_reducible refine (TA.out _ ?_).mono ?_); (focus (repeat (first | assumption | refine tkDrawN ?_ _ | refine tkDraw ?_))); rintro e' w7 ⟨rfl, rfl⟩)
                | (go_at_call 19; (with_reducible refine (VL.out _ ?_).mono ?_); (focus (repeat (first | assumption | refine tkDrawN ?_ _ | refine tkDraw ?_))); rintro e' w7 ⟨rfl, hT7⟩))
            all_goals
              rename_i hH
              go_wp2_with fail
              go_meet
              exact ⟨rfl, Lib.hid hH.2.2.2⟩
          case rest =>
            obtain ⟨rfl, hT9⟩ := hcut
            clear e7 e8 e9 KS NX LF TA VL
            go_wp2_with fail
            go_roundg (l.length - (k + 1))
            case measure => omega
            case rel => exact ⟨k + 1, N', T', by go_num, by omega, by omega, by omega, by omega, by omega, hT9⟩
      · have xe : ((x : Int) == 0) = false := by simp; omega
        by_cases hxN : x ≤ N
        · have SF := Lib.hid (skip_f w.heap.size m N T x (by omega) wr hT.out.1)
          have RF := Lib.hid (rskip_f r m N T x (by omega) (by omega) (by omega) wr hT.out.2.1)
          clear hxN x0
          go_wp2_with (first | (go_at_call 14; refine SF.out.mono ?_; rintro e w9 ⟨rfl, rfl⟩) | (go_at_call 15; refine RF.out.mono ?_; rintro e w9 ⟨rfl, rfl⟩))
          have KS := Lib.hid (fun W (h : TkS w.heap.size r m N T w W) => tk_cells h)
          have NX := Lib.hid (fun W (h : TkS w.heap.size r m N T w W) => next_any w.heap.size m N T W h.1)
          have LF := Lib.hid (fun W (h : TkS w.heap.size r m N T w W) => left_any w.heap.size m N T (by omega) (by omega) W h.1)
          have TA := Lib.hid (fun W (h : TkS w.heap.size r m N T w W) => taken_any w.heap.size m N T W h.1)
          have VL := Lib.hid (fun W (h : TkS w.heap.size r m N T w W) => tk_valid hgw hrg W h)
          have b1 : (0 : Int) ≤ N := by omega
          have b2 : (N : Int) ≤ 4294967295 := by omega
          have b3 : (0 : Int) ≤ 4294967295 - N := by omega
          have b4 : (4294967295 - N : Int) ≤ 4294967295 := by omega
          have e7 : IntKind.u64.wrap (4294967295 - N : Int) = 4294967295 - N := IntWalk.u64_in _ (by omega)
          have e8 : IntKind.u64.wrap (N : Int) = N := IntWalk.u64_in _ (by omega)
          have e9 : IntKind.u64.wrap (m : Int) = m := IntWalk.u64_in _ (by omega)
          go_upto_region 16 with (fail)
          go_cut [84] (fun s84 wx => s84 = .bool false ∧ Hid (TkS w.heap.size r m N T w wx))
          case first =>
            go_region_held3 (fun w' => w'.cell? ⟨r, 0, none⟩ = some (.int .u64 m) ∧ w'.cell? ⟨r, 1, none⟩ = some (.int .u64 N) ∧ w'.cell? ⟨r, 2, none⟩ = some (.int .u64 T) ∧ TkS w.heap.size r m N T w w')
              ((refine KS.out _ ?_; (repeat (first | assumption | refine tkDrawN ?_ _ | refine tkDraw ?_))))
              (first
                | (go_at_call 16; (with_reducible refine (NX.out _ ?_).mono ?_); (focus (repeat (first | assumption | refine tkDrawN ?_ _ | refine tkDraw ?_))); rintro e' w7 ⟨rfl, rfl⟩)
                | (go_at_call 17; (with_reducible refine (LF.out _ ?_).mono ?_); (focus (repeat (first | assumption | refine tkDrawN ?_ _ | refine tkDraw ?_))); rintro e' w7 ⟨rfl, rfl⟩)
                | (go_at_call 18; (with_reducible refine (TA.out _ ?_).mono ?_); (focus (repeat (first | assumption | refine tkDrawN ?_ _ | refine tkDraw ?_))); rintro e' w7 ⟨rfl, rfl⟩)
                | (go_at_call 19; (with_reducible refine (VL.out _ ?_).mono ?_); (focus (repeat (first | assumption | refine tkDrawN ?_ _ | refine tkDraw ?_))); rintro e' w7 ⟨rfl, hT7⟩))
            all_goals
              rename_i hH
              go_wp2_with fail
              go_meet
              exact ⟨rfl, Lib.hid hH.2.2.2⟩
          case rest =>
            obtain ⟨rfl, hT9⟩ := hcut
            clear e7 e8 e9 KS NX LF TA VL
            go_wp2_with fail
            go_roundg (l.length - (k + 1))
            case measure => omega
            case rel => exact ⟨k + 1, N, T, by go_num, by omega, by omega, by omega, by omega, by omega, hT9⟩
        · have SO := Lib.hid (skip_t w.heap.size m N T x (by omega) wr hT.out.1)
          go_upto_region 14 with (fail)
          go_wp2_with fail
          refine SO.out.mono ?_
          rintro e w3 ⟨rfl, h3⟩
          have RO := Lib.hid (rskip_t r m N T x (by omega) (by omega) (by omega) w3 (hT.out.2.1.other h3.out.2 hrg))
          have H3 := h3
          clear h3 SO
          go_wp2_with fail
          refine RO.out.mono ?_
          rintro e w4 ⟨rfl, h4⟩
          have HT4 : Hid (TkS w.heap.size r m x T w w4) :=
            ⟨H3.out.1.other h4.out.2 (fun e => hrg e.symm), h4.out.1, (hT.out.2.2.trans (below_grown H3.out.2 hgw hT.out.2.2.size)).trans (below_grown h4.out.2 hra (Nat.le_trans hT.out.2.2.size H3.out.2.size))⟩
          have hx1 : 1 ≤ x := by omega
          clear h4 H3 RO x0 hxN
          have KS := Lib.hid (fun W (h : TkS w.heap.size r m x T w W) => tk_cells h)
          have NX := Lib.hid (fun W (h : TkS w.heap.size r m x T w W) => next_any w.heap.size m x T W h.1)
          have LF := Lib.hid (fun W (h : TkS w.heap.size r m x T w W) => left_any w.heap.size m x T (by omega) (by omega) W h.1)
          have TA := Lib.hid (fun W (h : TkS w.heap.size r m x T w W) => taken_any w.heap.size m x T W h.1)
          have VL := Lib.hid (fun W (h : TkS w.heap.size r m x T w W) => tk_valid hgw hrg W h)
          have b1 : (0 : Int) ≤ x := by omega
          have b2 : (x : Int) ≤ 4294967295 := by omega
          have b3 : (0 : Int) ≤ 4294967295 - x := by omega
          have b4 : (4294967295 - x : Int) ≤ 4294967295 := by omega
          have e7 : IntKind.u64.wrap (4294967295 - x : Int) = 4294967295 - x := IntWalk.u64_in _ (by omega)
          have e8 : IntKind.u64.wrap (x : Int) = x := IntWalk.u64_in _ (by omega)
          have e9 : IntKind.u64.wrap (m : Int) = m := IntWalk.u64_in _ (by omega)
          go_upto_region 16 with (fail)
          go_cut [84] (fun s84 wx => s84 = .bool false ∧ Hid (TkS w.heap.size r m x T w wx))
          case first =>
            go_region_held3 (fun w' => w'.cell? ⟨r, 0, none⟩ = some (.int .u64 m) ∧ w'.cell? ⟨r, 1, none⟩ = some (.int .u64 x) ∧ w'.cell? ⟨r, 2, none⟩ = some (.int .u64 T) ∧ TkS w.heap.size r m x T w w')
              ((refine KS.out _ ?_; (repeat (first | assumption | refine tkDrawN ?_ _ | refine tkDraw ?_))))
              (first
                | (go_at_call 16; (with_reducible refine (NX.out _ ?_).mono ?_); (focus (repeat (first | assumption | refine tkDrawN ?_ _ | refine tkDraw ?_))); rintro e' w7 ⟨rfl, rfl⟩)
                | (go_at_call 17; (with_reducible refine (LF.out _ ?_).mono ?_); (focus (repeat (first | assumption | refine tkDrawN ?_ _ | refine tkDraw ?_))); rintro e' w7 ⟨rfl, rfl⟩)
                | (go_at_call 18; (with_reducible refine (TA.out _ ?_).mono ?_); (focus (repeat (first | assumption | refine tkDrawN ?_ _ | refine tkDraw ?_))); rintro e' w7 ⟨rfl, rfl⟩)
                | (go_at_call 19; (with_reducible refine (VL.out _ ?_).mono ?_); (focus (repeat (first | assumption | refine tkDrawN ?_ _ | refine tkDraw ?_))); rintro e' w7 ⟨rfl, hT7⟩))
            all_goals
              rename_i hH
              go_wp2_with fail
              go_meet
              exact ⟨rfl, Lib.hid hH.2.2.2⟩
          case rest =>
            obtain ⟨rfl, hT9⟩ := hcut
            clear e7 e8 e9 KS NX LF TA VL
            go_wp2_with fail
            go_roundg (l.length - (k + 1))
            case measure => omega
            case rel => exact ⟨k + 1, x, T, by go_num, by omega, by omega, by omega, by omega, by omega, hT9⟩
    · have f0 : decide (k < l.length) = false := by simpa using hlt
      have AL := Lib.hid (alive11_any wr)
      go_wp2_with fail
      refine AL.out.mono ?_
      rintro e w3 ⟨rfl, hb3⟩
      have HB3 := Lib.hid (hT.out.2.2.trans (hb3.mono hT.out.2.2.size))
      clear hb3
      go_wp2_with fail
      go_ret
      exact ⟨rfl, HB3.out⟩

end Go.Proofs.Ytdnmkmmicadnfaa
