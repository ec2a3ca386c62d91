/- The law StripePlays. -/
import Derived.Test.YtcfpdflaabfdkaaL13P
namespace Go.Proofs.Ytcfpdflaabfdkaa
open Go.RowKit

set_option maxRecDepth 100000 in
set_option maxHeartbeats 4000000 in
theorem plays_main (n : Nat) (hn : n ≤ 255) (hn1 : 1 ≤ n) (hn2 : n ≤ 16) (Ao : Option Addr) (co : Nat) (lo : List OI) (hlm : lo.length ≤ maxLen) (hfew : fewO lo = true) (f : Nat) (hf : f ≤ 255) (w : World) (hok : ∀ o ∈ lo, MIok o.m ∧ (-9223372036854775808 ≤ o.mode ∧ o.mode ≤ 9223372036854775807) ∧ ByAt w.heap.size w o.m.A o.m.k o.m.b) (hS : SlAt encP 5 w Ao lo) :
    Calls Try.prog 3 #[.int .u8 n, .slice Ao lo.length co, .int .u8 f] w fun e w' => e = .returned (.bool true) ∧ Below w.heap.size w w' := by
  have h60 : lo.length ≤ 60 := by
    unfold fewO at hfew
    rw [Bool.and_eq_true] at hfew
    simpa using hfew.2
  have FW := Lib.hid (few13_any lo Ao co hlm w hS)
  rw [hfew] at FW
  have NW := Lib.hid (fun W => tnew_any n ⟨hn1, hn2⟩ W)
  have AL := Lib.hid (fun W => alive13_any W)
  have HOK := Lib.hid hok
  have HS := Lib.hid hS
  have hnI : (n : Int) < 256 := by omega
  have hn1I : ¬ (n : Int) < 1 := by omega
  have hn2I : ¬ (16 : Int) < (n : Int) := by omega
  clear hok hS hfew hlm
  go_enter Try.func3, Try.ntmps3
  go_wp2_with fail
  refine FW.out.mono ?_
  rintro e w1 ⟨rfl, hb1⟩
  go_wp2_with fail
  refine (NW.out _).mono ?_
  rintro e w2 ⟨g, S, rfl, ht, hs, hb2⟩
  have ST := Lib.hid (tstripes_any ht)
  have HB2 := Lib.hid (below_next hb1 hb2)
  have HT := Lib.hid ht
  have HSB := Lib.hid (fun k hk => Nat.le_trans hb1.size (hs k hk))
  clear ht hs hb1 hb2 FW NW
  go_wp2_with fail
  refine ST.out.mono ?_
  rintro e w3 ⟨rfl, hb3⟩
  have HP := Lib.hid (show PlS w.heap.size g n S none [] w3 from ⟨HT.out.below hb3, HSB.out, (below_next HB2.out hb3).size, .inl rfl, Out.none _, fun a ha => (by cases ha), fun m hm => (by cases hm)⟩)
  have HB3 := Lib.hid (below_next HB2.out hb3)
  clear hb3 HT HB2 ST HSB
  go_wp2_with fail
  go_loopw [8, 41] (fun s8 s41 wr => ∃ (k : Nat) (L : List MI) (A' : Option Addr) (c' : Nat) (S : Nat → Prop), s8 = .slice A' L.length c' ∧ s41 = .int .i64 k ∧ k ≤ lo.length ∧ L.length ≤ k ∧ Hid (PlS w.heap.size g n S A' L wr) ∧ Hid (Below w.heap.size w wr)) (fun _ s41 _ => lo.length - (intOf s41).toNat)
  case atStart => exact ⟨0, [], none, 0, S, rfl, rfl, Nat.zero_le _, Nat.zero_le _, HP, HB3⟩
  case round =>
    obtain ⟨k, L, A', c', S1, rfl, rfl, hk, hLk, PK, BK⟩ := hrel
    clear HP HB3
    by_cases hlt : k < lo.length
    · obtain ⟨b, off, rfl, hbs, x0, x1, x2, x3, x4⟩ := (HS.out.below BK.out).op13 hlt
      obtain ⟨hmok, hmo, hby⟩ := HOK.out lo[k] (List.getElem_mem hlt)
      have hNL := nextM_len L lo[k]
      have hLo : L.length ≤ 100000 := by omega
      have PY := Lib.hid (fun W (hB : Below wr.heap.size wr W) => play_any w.heap.size g n S1 A' c' L lo[k] W (PK.out.below hB) hLo hmok hmo (hby.below (below_next BK.out hB)))
      unfold opV at PY
      generalize nextM L lo[k] = L2 at *
      generalize lo[k].kind = y0 at *
      generalize lo[k].m.u = y1 at *
      generalize lo[k].m.f = y2 at *
      generalize lo[k].m.A = y3 at *
      generalize lo[k].m.b.length = y4 at *
      generalize lo[k].m.k = y5 at *
      generalize lo[k].mode = y6 at *
      clear hmok hmo hby
      go_wp2_with fail
      refine (PY.out _ (below_al _ _)).mono ?_
      rintro e w4 ⟨S4, A4, c4, rfl, p4, m4, k4, -⟩
      have HB4 := Lib.hid (BK.out.trans ((KeptO.after_below (below_al _ _) k4).below PK.out.sb BK.out.size))
      have P4 := Lib.hid p4
      have hL2 : L2.length ≤ 100000 := by omega
      have TS := Lib.hid (tsizes_any p4.tb hL2)
      have HU := Lib.hid (fun m hm => (p4.tb.good.ok m hm).2.1)
      clear p4 m4 k4 PY PK BK x0 x1 x2 x3 x4
      go_wp2_with fail
      refine TS.out.mono ?_
      rintro e w5 ⟨v5, S5, rfl, ho5, t5, m5, k5⟩
      obtain ⟨A5, c5, rfl⟩ := own_any ho5
      have P5 := Lib.hid (P4.out.same m5 k5 t5)
      have HB5 := Lib.hid (HB4.out.trans (k5.below P4.out.sb HB4.out.size))
      have HO5 := Lib.hid ho5
      have RS := Lib.hid (rsizes13_any (c := c4) n hn1 (by omega) HU.out hL2 P5.out.sl)
      clear ho5 t5 m5 k5 TS P4 HB4 HU
      go_wp2_with fail
      refine RS.out.mono ?_
      rintro e w6 ⟨v6, rfl, ho6, hb6⟩
      obtain ⟨A6, c6, rfl⟩ := own_any ho6
      have hsl : (szM L2 n).length ≤ 1000000000 := by rw [szM_len]; omega
      have EQ := Lib.hid (equalI13_any A5 A6 c5 c6 (szM L2 n) (szM L2 n) hsl hsl w6 ((SlAt.of_own encZ_len HO5.out).below hb6) (SlAt.of_own encZ_len ho6))
      rw [decide_eq_true rfl] at EQ
      have HB6 := Lib.hid hb6
      clear ho6 hb6 RS HO5
      go_wp2_with fail
      refine EQ.out.mono ?_
      rintro e w7 ⟨rfl, hb7⟩
      have HB7 := Lib.hid (below_next HB6.out hb7)
      clear hb7 EQ
      go_wp2_with fail
      go_roundw
      case rel => exact ⟨k + 1, L2, A4, c4, S5, rfl, by go_num, by omega, by omega, P5.out.below HB7.out, below_next HB5.out HB7.out⟩
      case measure => simp [intOf]; omega
    · obtain rfl : k = lo.length := by omega
      have hLo : L.length ≤ 100000 := by omega
      go_wp2_with fail
      refine (AL.out _).mono ?_
      rintro e w4 ⟨rfl, hb4⟩
      have P4 := Lib.hid (PK.out.below hb4)
      have HB4 := Lib.hid (below_next BK.out hb4)
      have TW := Lib.hid (twith_any f hf P4.out.tb hLo)
      have HU := Lib.hid (fun m hm => (show m.f < 256 ∧ m.u ≤ 4294967295 from ⟨by have := (P4.out.tb.good.ok m hm).2.2.1; omega, (P4.out.tb.good.ok m hm).2.1⟩))
      clear hb4 PK BK AL
      go_wp2_with fail
      refine TW.out.mono ?_
      rintro e w5 ⟨O, v5, S5, rfl, hO, hOl, ho5, t5, m5, k5⟩
      obtain ⟨A5, c5, rfl⟩ := own_any ho5
      have P5 := Lib.hid (P4.out.same m5 k5 t5)
      have HB5 := Lib.hid (HB4.out.trans (k5.below P4.out.sb HB4.out.size))
      have HO5 := Lib.hid ho5
      have HSET := Lib.hid hO
      have RW := Lib.hid (rwith13_any (c := c') f (by omega) HU.out hLo P5.out.sl)
      clear ho5 t5 m5 k5 TW P4 HB4 HU hO
      go_wp2_with fail
      refine RW.out.mono ?_
      rintro e w6 ⟨O', v6, rfl, hO', hOl', ho6, hb6⟩
      obtain rfl : O = O' := HSET.out.det hO'
      obtain ⟨A6, c6, rfl⟩ := own_any ho6
      have EQ := Lib.hid (equalU13_any A5 A6 c5 c6 O O (by omega) (by omega) w6 ((SlAt.of_own encU_len HO5.out).below hb6) (SlAt.of_own encU_len ho6))
      rw [decide_eq_true rfl] at EQ
      have HB6 := Lib.hid (below_next HB5.out hb6)
      clear ho6 hb6 RW HO5 hO' HSET
      go_wp2_with fail
      refine EQ.out.mono ?_
      rintro e w7 ⟨rfl, hb7⟩
      have HB7 := below_next HB6.out hb7
      clear hb7 EQ
      go_wp2_with fail
      go_ret
      exact ⟨rfl, HB7⟩

set_option maxRecDepth 100000 in
set_option maxHeartbeats 1000000 in
theorem plays_many (n : Nat) (Ao : Option Addr) (co : Nat) (lo : List OI) (hlm : lo.length ≤ maxLen) (hfew : fewO lo = false) (f : Nat) (w : World) (hS : SlAt encP 5 w Ao lo) :
    Calls Try.prog 3 #[.int .u8 n, .slice Ao lo.length co, .int .u8 f] w fun e w' => e = .returned (.bool true) ∧ Below w.heap.size w w' := by
  have FW := Lib.hid (few13_any lo Ao co hlm w hS)
  rw [hfew] at FW
  have AL := Lib.hid (fun W => alive13_any W)
  clear hS hfew hlm
  go_enter Try.func3, Try.ntmps3
  go_wp2_with fail
  refine FW.out.mono ?_
  rintro e w1 ⟨rfl, hb1⟩
  go_wp2_with fail
  refine (AL.out _).mono ?_
  rintro e w2 ⟨rfl, hb2⟩
  have HB2 := below_next hb1 hb2
  go_wp2_with fail
  go_ret
  exact ⟨rfl, HB2⟩

set_option maxRecDepth 100000 in
set_option maxHeartbeats 1000000 in
theorem plays_none (n : Nat) (hn : n ≤ 255) (hno : ¬ (1 ≤ n ∧ n ≤ 16)) (Ao : Option Addr) (co : Nat) (lo : List OI) (hlm : lo.length ≤ maxLen) (hfew : fewO lo = true) (f : Nat) (w : World) (hS : SlAt encP 5 w Ao lo) :
    Calls Try.prog 3 #[.int .u8 n, .slice Ao lo.length co, .int .u8 f] w fun e w' => e = .returned (.bool true) ∧ Below w.heap.size w w' := by
  have FW := Lib.hid (few13_any lo Ao co hlm w hS)
  rw [hfew] at FW
  have AL := Lib.hid (fun W => alive13_any W)
  have NW := Lib.hid (fun W => tnew_no (n : Int) (by omega) W)
  have hnI : (n : Int) < 256 := by omega
  clear hS hfew hlm
  rcases Nat.eq_zero_or_pos n with h0 | h0
  · subst h0
    go_enter Try.func3, Try.ntmps3
    go_wp2_with fail
    refine FW.out.mono ?_
    rintro e w1 ⟨rfl, hb1⟩
    go_wp2_with fail
    refine (NW.out _).mono ?_
    rintro e w2 ⟨rfl, hb2⟩
    have HB2 := below_next hb1 hb2
    go_wp2_with fail
    refine (AL.out _).mono ?_
    rintro e w3 ⟨rfl, hb3⟩
    have HB3 := below_next HB2 hb3
    go_wp2_with fail
    go_ret
    exact ⟨rfl, HB3⟩
  · have hn1I : ¬ (n : Int) < 1 := by omega
    have hn2I : (16 : Int) < (n : Int) := by omega
    go_enter Try.func3, Try.ntmps3
    go_wp2_with fail
    refine FW.out.mono ?_
    rintro e w1 ⟨rfl, hb1⟩
    go_wp2_with fail
    refine (NW.out _).mono ?_
    rintro e w2 ⟨rfl, hb2⟩
    have HB2 := below_next hb1 hb2
    go_wp2_with fail
    refine (AL.out _).mono ?_
    rintro e w3 ⟨rfl, hb3⟩
    have HB3 := below_next HB2 hb3
    go_wp2_with fail
    go_ret
    exact ⟨rfl, HB3⟩

theorem stripePlays_any (n : Nat) (hn : n ≤ 255) (Ao : Option Addr) (co : Nat) (lo : List OI) (_ : lo.length ≤ co) (hlm : lo.length ≤ maxLen) {w : World} (hok : ∀ o ∈ lo, MIok o.m ∧ (-9223372036854775808 ≤ o.kind ∧ o.kind ≤ 9223372036854775807) ∧ (-9223372036854775808 ≤ o.mode ∧ o.mode ≤ 9223372036854775807) ∧ ByAt w.heap.size w o.m.A o.m.k o.m.b) (f : Nat) (hf : f ≤ 255) (_ : World) (hS : SlAt encP 5 w Ao lo) :
    Calls Try.prog 3 #[.int .u8 n, .slice Ao lo.length co, .int .u8 f] w fun e w' => e = .returned (.bool true) ∧ Below w.heap.size w w' := by
  cases hfew : fewO lo with
  | false => exact plays_many n Ao co lo hlm hfew f w hS
  | true =>
    by_cases h : 1 ≤ n ∧ n ≤ 16
    · exact plays_main n hn h.1 h.2 Ao co lo hlm hfew f hf w (fun o ho => ⟨(hok o ho).1, (hok o ho).2.2.1, (hok o ho).2.2.2⟩) hS
    · exact plays_none n hn h Ao co lo hlm hfew f w hS
end Go.Proofs.Ytcfpdflaabfdkaa
