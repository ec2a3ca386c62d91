/- The law StoreTells. -/
import Derived.Test.YthdbbappojkmoaaHx
import Derived.Test.YthdbbappojkmoaaTe16
import Derived.Deep.QuietTactic
import Derived.WalkSmall
namespace Go.Proofs.Ythdbbappojkmoaa
open Go.RowKit

set_option maxRecDepth 100000 in
set_option maxHeartbeats 1000000 in
theorem storeTells_law (f0 f1 : Nat) (_h0 : f0 ≤ 255) (_h1 : f1 ≤ 255) (m : Nat) (_hm : m ≤ 255) (n : Nat) (_hn : n ≤ 255) (w : World) : Calls Try.prog 4 #[.agg #[.int .u8 f0, .int .u8 f1], .int .u8 m, .int .u8 n] w fun e w' => e = .returned (.bool true) ∧ Below w.heap.size w w' := by
  obtain ⟨i0, hi, hz0, hz1, hz2⟩ := info_parts infoEv
  have N := Lib.hid (fun W => sx_new 2 5 1 (by decide) (by decide) (by decide) W)
  have AL := Lib.hid (fun W => alive16_any W)
  have hk := Nat.mod_lt n (show 9 > 0 by decide)
  have hm3 := Nat.mod_lt m (show 3 > 0 by decide)
  have e1 : IntKind.i64.wrap (n : Int) = (n : Int) := IntWalk.i64_in _ (by omega)
  have e2 : (n : Int).tmod 9 = ((n % 9 : Nat) : Int) := by rw [Int.tmod_eq_emod_of_nonneg (by omega)]; omega
  have e2' : (n : Int) % 9 = ((n % 9 : Nat) : Int) := by omega
  have e3 : IntKind.i64.wrap (m : Int) = (m : Int) := IntWalk.i64_in _ (by omega)
  have e4 : (m : Int).tmod 3 = ((m % 3 : Nat) : Int) := by rw [Int.tmod_eq_emod_of_nonneg (by omega)]; omega
  have e4' : (m : Int) % 3 = ((m % 3 : Nat) : Int) := by omega
  have b1 : bits BinOp.and IntKind.u8 (f0 : Int) 31 = ((f0 &&& 31 : Nat) : Int) := u8_and_nat f0 31 (by omega) (by omega)
  have b2 : bits BinOp.and IntKind.u8 (f1 : Int) 31 = ((f1 &&& 31 : Nat) : Int) := u8_and_nat f1 31 (by omega) (by omega)
  have ha : f0 &&& 31 ≤ 31 := Nat.and_le_right
  have hb : f1 &&& 31 ≤ 31 := Nat.and_le_right
  generalize n % 9 = k at *
  generalize m % 3 = md at *
  generalize f0 &&& 31 = a at *
  generalize f1 &&& 31 = b at *
  obtain ⟨x, hx, hx31⟩ := changeO_some ha hb hm3
  have HX := Lib.hid hx
  have e6 : IntKind.i64.wrap (k : Int) = (k : Int) := IntWalk.i64_in _ (by omega)
  have e7 : IntKind.i64.wrap (md : Int) = (md : Int) := IntWalk.i64_in _ (by omega)
  clear hx
  go_enter Try.func4, Try.ntmps4
  go_wp2_with fail
  go_quiet (fail)
  have HB0 := Lib.hid (belowDrawN (below_al w (.cells #[.int .u8 (f0 : Int), .int .u8 (f1 : Int)] 34)) nq)
  generalize (w.alloc (.cells #[.int .u8 (f0 : Int), .int .u8 (f1 : Int)] 34)).drewN nq = w0 at *
  go_wp2_with fail
  refine (N.out _).mono ?_
  rintro e w1 ⟨g, rfl, x1⟩
  have X1 := Lib.hid x1
  clear x1 N
  go_wp2_with fail
  go_loopw [31] (fun v wr => ∃ j : Nat, j ≤ k ∧ v = .int .i64 j ∧ ∃ st, Hid (Te1 j st) ∧ Hid (OX w0.heap.size (ST g st) [] w0 wr)) (fun v _ => k - (intOf v).toNat)
  case atStart => exact ⟨0, by omega, rfl, _, Lib.hid Te1.start, X1⟩
  case round =>
    obtain ⟨j, hj, rfl, st, ht, hx⟩ := hrel
    have hj0 : (0 : Int) ≤ (j : Int) := by omega
    by_cases hlt : j < k
    · have hj1 : (j : Int) < (k : Int) := by omega
      obtain ⟨he, t2⟩ := ht.out.step
      have T2 := Lib.hid t2
      have C1 := hx.out.subs j (by omega) he (ht.out.few (by omega))
      rw [ht.out.uids] at C1
      have C1 := Lib.hid C1
      generalize (subP st j).1 = st2 at *
      clear ht hx he t2
      go_wp2_with fail
      refine C1.out.mono ?_
      rintro e w2 ⟨A2, c2, rfl, x2⟩
      have X2 := Lib.hid x2.drop
      clear x2 C1
      go_wp2_with fail
      go_roundw
      case rel => exact ⟨j + 1, by omega, by go_num, st2, T2, X2⟩
      case measure => simp [intOf]; omega
    · obtain rfl : j = k := by omega
      obtain ⟨he, t2⟩ := ht.out.app ha
      have T2 := Lib.hid t2
      have C1 := hx.out.app a (by omega) none 0 [] (ByAt.nil _ _ _ _) (.inl rfl) (ht.out.small.mono (by decide))
      rw [he] at C1
      have C1 := Lib.hid C1
      generalize (appP st a []).1 = st2 at *
      clear ht hx he t2 X1 hlt
      go_wp2_with fail
      refine C1.out.mono ?_
      rintro e w2 ⟨rfl, x2⟩
      obtain ⟨he, t3⟩ := T2.out.chg HX.out
      have T3 := Lib.hid t3
      have C2 := x2.chg 0 (by decide) 1 (by decide) md (by omega) b (by omega) (T2.out.small.mono (by decide))
      rw [he] at C2
      have C2 := Lib.hid C2
      generalize (chgP st2 0 1 md b).1 = st3 at *
      clear he t3 x2 T2 C1
      go_wp2_with fail
      refine C2.out.mono ?_
      rintro e w3 ⟨rfl, x3⟩
      have X3 := Lib.hid x3
      clear x3 C2
      go_wp2_with fail
      generalize wr = wo at *
      go_loopw [57] (fun v wr => ∃ i : Nat, i ≤ j ∧ v = .int .i64 i ∧ ∃ st, Hid (Te3 j i a x st) ∧ Hid (OX w0.heap.size (ST g st) [] w0 wr)) (fun v _ => j - (intOf v).toNat)
      case atStart => exact ⟨0, by omega, rfl, _, T3, X3⟩
      case round =>
        obtain ⟨i, hij, rfl, st, ht, hx⟩ := hrel
        have hi0 : (0 : Int) ≤ (i : Int) := by omega
        by_cases hlt : i < j
        · have hi1 : (i : Int) < (j : Int) := by omega
          have HT2 := Lib.hid ht.out.flush
          have hev := ht.out.evs hlt
          by_cases hp : 0 < i
          · have hp1 : (0 : Int) < (i : Int) := by omega
            by_cases hxa : x = a
            · obtain rfl := hxa
              have hL : teE x x i = [⟨1, 1, 0⟩] := by unfold teE; rw [if_neg (by omega)]
              have D0 := below_al wr (.cells #[.int .i64 1, .int .u32 1, .int .u8 0] 40)
              have x2 := hx.out.addE (A := some ⟨wr.heap.size, 0, none⟩) (c := 1) (l := [⟨1, 1, 0⟩]) D0 (World.ownsRow_lit (base := wr.heap.size) (e := 40) (size := 3) wr #[.int .i64 1, .int .u32 1, .int .u8 0] 1 (Nat.le_refl _) (by decide) rfl)
              have CF := x2.flush i (by omega) true (ht.out.small.mono (by decide))
              rw [hev, hL] at CF
              have CF := Lib.hid CF
              have EQ := Lib.hid (fun W A5 c5 (x5 : OX w0.heap.size (ST g (flushP st i true)) [evI w0.heap.size A5 c5 [⟨1, 1, 0⟩], evI w0.heap.size (some ⟨wr.heap.size, 0, none⟩) 1 [⟨1, 1, 0⟩]] w0 W) => (show Calls Try.prog 12 #[.slice A5 1 c5, .slice (some ⟨wr.heap.size, 0, none⟩) 1 1] W fun e w' => e = .returned (.bool true) ∧ OX w0.heap.size (ST g (flushP st i true)) [] w0 w' from
                (equalEv_any A5 (some ⟨wr.heap.size, 0, none⟩) c5 1 [⟨1, 1, 0⟩] [⟨1, 1, 0⟩] (by decide) (by decide) W (x5.rdE (List.mem_cons_self ..)) (x5.rdE (List.mem_cons_of_mem _ (List.mem_cons_self ..)))).mono fun _ _ ⟨h1, h2⟩ => ⟨by rw [h1]; simp, ((x5.bel h2).sub fun r hr => by cases hr)⟩))
              clear D0 x2 hx ht hev hL
              go_wp2_with fail
              refine CF.out.mono ?_
              rintro e w5 ⟨A5, c5, rfl, x5⟩
              have E5 := Lib.hid (EQ.out w5 A5 c5 x5)
              clear CF EQ x5
              go_wp2_with fail
              refine E5.out.mono ?_
              rintro e w6 ⟨rfl, x6⟩
              have X6 := Lib.hid x6
              clear x6 E5
              go_wp2_with fail
              go_roundw
              case rel => exact ⟨i + 1, by omega, by go_num, _, HT2, X6⟩
              case measure => simp [intOf]; omega
            · have hL : teE a x i = [⟨1, 1, 0⟩, ⟨3, 1, x⟩] := by unfold teE; rw [if_pos (by omega)]
              have hq : ((x : Int) == (a : Int)) = false := beq_eq_false_iff_ne.2 (by omega)
              have D0 := below_al wr (.cells #[.int .i64 1, .int .u32 1, .int .u8 0] 40)
              have D1 := below_al (wr.alloc (.cells #[.int .i64 1, .int .u32 1, .int .u8 0] 40)) (.cells #[.int .i64 3, .int .u32 1, .int .u8 (x : Int)] 40)
              have ho := World.ownsRow_lit (base := wr.heap.size) (e := 40) (size := 3) wr #[.int .i64 1, .int .u32 1, .int .u8 0] 1 (Nat.le_refl _) (by decide) rfl
              have HOW := Lib.hid (own_below ho D1)
              have HSL := Lib.hid (slAt_ev ⟨3, 1, x⟩ (heap_alloc_new (wr.alloc (.cells #[.int .i64 1, .int .u32 1, .int .u8 0] 40)) (.cells #[.int .i64 3, .int .u32 1, .int .u8 (x : Int)] 40)))
              have DD := Lib.hid (D0.trans (D1.mono D0.size))
              have hsz : (wr.alloc (.cells #[.int .i64 1, .int .u32 1, .int .u8 0] 40)).heap.size = wr.heap.size + 1 := by simp
              rw [hsz] at HSL
              have HF := Lib.hid (fun A2 c2 W (ho2 : W.ownsRow wr.heap.size 40 3 (.slice A2 2 c2) 2 (flatL encEv [⟨1, 1, 0⟩, ⟨3, 1, x⟩])) (hb2 : Below wr.heap.size wr W) => by
                have CF := (hx.out.addE (l := [⟨1, 1, 0⟩, ⟨3, 1, x⟩]) hb2 ho2).flush i (by omega) true (ht.out.small.mono (by decide))
                rw [hev, hL] at CF
                exact CF)
              clear D0 D1 ho
              go_wp2_with (at_builtin; refine wpList_append_sl _ rfl _ _ 41 rfl wr.heap.size 40 i0 _ 16 Try.underlying41 hi hz0 hz1 hz2 rfl (by decide) _ 1 (flatL encEv [⟨1, 1, 0⟩]) rfl HOW.out (some ⟨wr.heap.size + 1, 0, none⟩) [⟨3, 1, x⟩] 1 rfl encEv_len HSL.out (one_flatEv _) (Nat.le_of_ble_eq_true rfl) (Nat.le_of_ble_eq_true rfl) DD.out.size ?_; intro v2 w2 hown2 hg2; obtain ⟨A2, c2, rfl⟩ := own_any hown2; have CF := Lib.hid (HF.out A2 c2 w2 hown2 (DD.out.grown hg2 DD.out.size (fun kk hkk => (HOW.out.lt kk hkk).1))); clear hown2 hg2 HF HOW HSL DD)
              have EQ := Lib.hid (fun W A5 c5 (x5 : OX w0.heap.size (ST g (flushP st i true)) [evI w0.heap.size A5 c5 [⟨1, 1, 0⟩, ⟨3, 1, x⟩], evI w0.heap.size A2 c2 [⟨1, 1, 0⟩, ⟨3, 1, x⟩]] w0 W) => (show Calls Try.prog 12 #[.slice A5 2 c5, .slice A2 2 c2] W fun e w' => e = .returned (.bool true) ∧ OX w0.heap.size (ST g (flushP st i true)) [] w0 w' from
                (equalEv_any A5 A2 c5 c2 [⟨1, 1, 0⟩, ⟨3, 1, x⟩] [⟨1, 1, 0⟩, ⟨3, 1, x⟩] (Nat.le_of_ble_eq_true rfl) (Nat.le_of_ble_eq_true rfl) W (x5.rdE (List.mem_cons_self ..)) (x5.rdE (List.mem_cons_of_mem _ (List.mem_cons_self ..)))).mono fun _ _ ⟨h1, h2⟩ => ⟨by rw [h1]; simp, ((x5.bel h2).sub fun r hr => by cases hr)⟩))
              clear hx ht hev hL
              refine CF.out.mono ?_
              rintro e w5 ⟨A5, c5, rfl, x5⟩
              have E5 := Lib.hid (EQ.out w5 A5 c5 x5)
              clear CF EQ x5
              go_wp2_with fail
              refine E5.out.mono ?_
              rintro e w6 ⟨rfl, x6⟩
              have X6 := Lib.hid x6
              clear x6 E5
              go_wp2_with fail
              go_roundw
              case rel => exact ⟨i + 1, by omega, by go_num, _, HT2, X6⟩
              case measure => simp [intOf]; omega
          · have hp1 : ¬ (0 : Int) < (i : Int) := by omega
            have hL : teE a x i = [⟨1, 1, 0⟩] := by unfold teE; rw [if_neg (by omega)]
            have D0 := below_al wr (.cells #[.int .i64 1, .int .u32 1, .int .u8 0] 40)
            have x2 := hx.out.addE (A := some ⟨wr.heap.size, 0, none⟩) (c := 1) (l := [⟨1, 1, 0⟩]) D0 (World.ownsRow_lit (base := wr.heap.size) (e := 40) (size := 3) wr #[.int .i64 1, .int .u32 1, .int .u8 0] 1 (Nat.le_refl _) (by decide) rfl)
            have CF := x2.flush i (by omega) true (ht.out.small.mono (by decide))
            rw [hev, hL] at CF
            have CF := Lib.hid CF
            have EQ := Lib.hid (fun W A5 c5 (x5 : OX w0.heap.size (ST g (flushP st i true)) [evI w0.heap.size A5 c5 [⟨1, 1, 0⟩], evI w0.heap.size (some ⟨wr.heap.size, 0, none⟩) 1 [⟨1, 1, 0⟩]] w0 W) => (show Calls Try.prog 12 #[.slice A5 1 c5, .slice (some ⟨wr.heap.size, 0, none⟩) 1 1] W fun e w' => e = .returned (.bool true) ∧ OX w0.heap.size (ST g (flushP st i true)) [] w0 w' from
              (equalEv_any A5 (some ⟨wr.heap.size, 0, none⟩) c5 1 [⟨1, 1, 0⟩] [⟨1, 1, 0⟩] (by decide) (by decide) W (x5.rdE (List.mem_cons_self ..)) (x5.rdE (List.mem_cons_of_mem _ (List.mem_cons_self ..)))).mono fun _ _ ⟨h1, h2⟩ => ⟨by rw [h1]; simp, ((x5.bel h2).sub fun r hr => by cases hr)⟩))
            clear D0 x2 hx ht hev hL
            go_wp2_with fail
            refine CF.out.mono ?_
            rintro e w5 ⟨A5, c5, rfl, x5⟩
            have E5 := Lib.hid (EQ.out w5 A5 c5 x5)
            clear CF EQ x5
            go_wp2_with fail
            refine E5.out.mono ?_
            rintro e w6 ⟨rfl, x6⟩
            have X6 := Lib.hid x6
            clear x6 E5
            go_wp2_with fail
            go_roundw
            case rel => exact ⟨i + 1, by omega, by go_num, _, HT2, X6⟩
            case measure => simp [intOf]; omega
        · obtain rfl : i = j := by omega
          have HB := Lib.hid (HB0.out.trans (hx.out.be.mono HB0.out.size))
          go_wp2_with fail
          refine (AL.out _).mono ?_
          rintro e w9 ⟨rfl, hb9⟩
          have HB9 := Lib.hid (HB.out.trans (hb9.mono HB.out.size))
          clear hb9 HB AL
          go_wp2_with fail
          go_ret
          exact ⟨rfl, HB9.out⟩
end Go.Proofs.Ythdbbappojkmoaa
