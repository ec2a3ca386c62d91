/- The walk of the law IndexPlays. -/
import Derived.Test.YtkehlknnonppjaaL12R
import Derived.Test.YtkehlknnonppjaaOps
import Derived.Deep.CutBlock
import Derived.Deep.RegionWith
namespace Go.Proofs.Ytkehlknnonppjaa
open Go.RowKit

/-- The reference's list: in no block of the index. -/
def RefAt (g r : Nat) (w : World) (A : Option Addr) (L : List Nat) : Prop := L = [] ∨ ∃ bk off : Nat, A = some ⟨bk, off, none⟩ ∧ bk ≠ g ∧ bk ≠ r ∧ bk < w.heap.size ∧ ∀ j x : Nat, L[j]? = some x → w.cell? ⟨bk, off + j, none⟩ = some (.int .u32 (x : Int))
variable {g r : Nat} {w w' : World} {A : Option Addr} {L : List Nat}
theorem RefAt.sl (h : RefAt g r w A L) : SlAt encU 1 w A L := by
  rcases h with rfl | ⟨bk, off, rfl, _, _, hb, hc⟩
  · exact .inl rfl
  · exact SlB.at (bk := bk) (.inr ⟨off, rfl, hb, hc⟩)
theorem RefAt.two (h : RefAt g r w A L) (k : Two g r w w') : RefAt g r w' A L := by
  rcases h with rfl | ⟨bk, off, rfl, h1, h2, hb, hc⟩
  · exact .inl rfl
  · exact .inr ⟨bk, off, rfl, h1, h2, Nat.lt_of_lt_of_le hb k.size, fun j x hj => (cell_blk (k.block bk hb h1 h2)).trans (hc j x hj)⟩
theorem RefAt.below (h : RefAt g r w A L) (k : Below w.heap.size w w') : RefAt g r w' A L := h.two (Two.of_below k)
theorem RefAt.move (h : RefAt g r w A L) (k : Two g r w w') {r' : Nat} (hr : r' = r ∨ w.heap.size ≤ r') : RefAt g r' w' A L := by
  rcases h.two k with rfl | ⟨bk, off, hA, h1, h2, hb, hc⟩
  · exact .inl rfl
  · rcases h with rfl | ⟨bk', off', hA', _, _, hb', _⟩
    · exact .inl rfl
    · have : bk = bk' := by
        rw [hA] at hA'
        injection hA' with hA'
        injection hA'
      exact .inr ⟨bk, off, hA, h1, by omega, hb, hc⟩
theorem RefAt.of_own {B : Nat} {c : Nat} (h : w.ownsRow B 28 1 (.slice A L.length c) L.length (flatL encU L)) (hg : g < B) (hr : r < B) : RefAt g r w A L := by
  rcases SlAt.of_own encU_len h with rfl | ⟨b, off, hA, hb, hc⟩
  · exact .inl rfl
  · refine .inr ⟨b, off, hA, ?_, ?_, hb, fun j x hj => by simpa using hc j x hj 0 _ rfl⟩
    · have := (h.lt b (by rw [hA]; rfl)).1
      omega
    · have := (h.lt b (by rw [hA]; rfl)).1
      omega
/-- A cell of another block. -/
theorem Two.cell (k : Two g r w w') {b o : Nat} {v : Value} (h : w.cell? ⟨b, o, none⟩ = some v) (hb : b < w.heap.size) (hg : b ≠ g) (hr : b ≠ r) : w'.cell? ⟨b, o, none⟩ = some v := (cell_blk (k.block b hb hg hr)).trans h

set_option maxRecDepth 100000 in
set_option maxHeartbeats 4000000 in
theorem indexPlays_any (A : Option Addr) (c : Nat) (l : List Nat) (_ : l.length ≤ maxLen) (hb : ∀ n ∈ l, n ≤ 4294967295) (Ao : Option Addr) (co : Nat) (lo : List (Int × Nat)) (_ : lo.length ≤ maxLen) (hbo : ∀ x ∈ lo, x.2 ≤ 4294967295) (w : World) (hS : SlAt encU 1 w A l) (hSo : SlAt encO 2 w Ao lo) :
    Calls Try.prog 3 #[.slice A l.length c, .slice Ao lo.length co] w fun e w' => e = .returned (.bool true) ∧ Below w.heap.size w w' := by
  have AL := fun W => Lib.hid (alive12_any W)
  by_cases h100 : l.length ≤ 100
  · have hg : ¬ (100 : Int) < (l.length : Int) := by omega
    by_cases h200 : lo.length ≤ 100
    · have hg2 : ¬ (100 : Int) < (lo.length : Int) := by omega
      obtain ⟨O, hO, hOl⟩ := isSet_ex l
      have NW := Lib.hid (new_any A c l O (by omega) hb hO w hS)
      have RN := Lib.hid (fun w1 (h : Below w.heap.size w w1) => rnew_any (A := A) (c := c) O (by omega) hb hO (hS.below h))
      have HSO := Lib.hid hSo
      have HBO := Lib.hid hbo
      clear hS hb hO hSo hbo
      go_enter Try.func3, Try.ntmps3
      go_wp2_with fail
      refine NW.out.mono ?_
      rintro e w1 ⟨g, r0, rfl, hgw, hrw, X1, B1⟩
      have R1 := Lib.hid (RN.out w1 B1.out)
      clear NW RN
      go_wp2_with fail
      refine R1.out.mono ?_
      rintro e w2 ⟨v2, rfl, ho2, hb2⟩
      obtain ⟨A2, c2, rfl⟩ := own_any ho2
      have X2 := Lib.hid (X1.out.below hb2)
      have S2 := Lib.hid (RefAt.of_own ho2 X1.out.lt X1.out.ltr)
      have B2 := Lib.hid (below_next B1.out hb2)
      clear R1 X1 B1 ho2 hb2
      go_wp2_with fail
      go_loopw [6, 28] (fun s6 s28 wr => ∃ (k r : Nat) (L : List Nat) (A' : Option Addr) (c' : Nat), s6 = .slice A' L.length c' ∧ s28 = .int .i64 k ∧ k ≤ lo.length ∧ w.heap.size ≤ r ∧ L.length ≤ 100 + k ∧ Hid (Ix g r L wr) ∧ Hid (RefAt g r wr A' L) ∧ Hid (Below w.heap.size w wr)) (fun _ s28 _ => lo.length - (intOf s28).toNat)
      case atStart => exact ⟨0, r0, O, A2, c2, rfl, rfl, Nat.zero_le _, hrw, by omega, X2, S2, B2⟩
      case round =>
        obtain ⟨k, r, L, A', c', rfl, rfl, hk, hrw', hLk, XK, SK, BK⟩ := hrel
        clear X2 S2 B2
        by_cases hlt : k < lo.length
        · obtain ⟨b, off, rfl, hbs, hx0, hx1⟩ := (HSO.out.below BK.out).op hlt
          have hux := HBO.out lo[k] (List.getElem_mem hlt)
          generalize lo[k] = o at *
          obtain ⟨kd, u⟩ := o
          dsimp only at hx0 hx1 hux
          go_upto_if 34 with (fail)
          have XN := Lib.hid (XK.out.below (below_al wr (.cells #[.int .i64 kd, .int .u32 (u : Int)] 30)))
          have SN := Lib.hid (SK.out.below (below_al wr (.cells #[.int .i64 kd, .int .u32 (u : Int)] 30)))
          have BN := Lib.hid (below_next BK.out (below_al wr (.cells #[.int .i64 kd, .int .u32 (u : Int)] 30)))
          have cb1 : (wr.alloc (.cells #[.int .i64 kd, .int .u32 (u : Int)] 30)).cell? ⟨wr.heap.size, 1, none⟩ = some (.int .u32 (u : Int)) := by simp
          have obl : wr.heap.size < (wr.alloc (.cells #[.int .i64 kd, .int .u32 (u : Int)] 30)).heap.size := by simp
          have obg : wr.heap.size ≠ g := by have := XK.out.lt; omega
          have obr : wr.heap.size ≠ r := by have := XK.out.ltr; omega
          have hrl : r < (wr.alloc (.cells #[.int .i64 kd, .int .u32 (u : Int)] 30)).heap.size := XN.out.ltr
          have hgl : g < (wr.alloc (.cells #[.int .i64 kd, .int .u32 (u : Int)] 30)).heap.size := XN.out.lt
          clear XK SK BK hx0 hx1
          generalize wr.heap.size = ob at *
          generalize wr.alloc (.cells #[.int .i64 kd, .int .u32 (u : Int)] 30) = wn at *
          go_cut [6] (fun s6 wx => ∃ (r' : Nat) (L' : List Nat) (A'' : Option Addr) (c'' : Nat), s6 = .slice A'' L'.length c'' ∧ w.heap.size ≤ r' ∧ L'.length ≤ 100 + (k + 1) ∧ Hid (Ix g r' L' wx) ∧ Hid (RefAt g r' wx A'' L') ∧ Hid (Below w.heap.size w wx))
          case first =>
            by_cases hkd : kd = 0
            · subst hkd
              by_cases hlast : lastL L < u
              · have RA := rappend_yes (c := c') u (by omega) hlast SN.out.sl
                have AP := fun w3 (h : Ix g r L w3) => ixappend_any u hux (by omega) h
                rw [decide_eq_true hlast] at AP
                simp only [if_pos hlast] at AP
                obtain ⟨L3, hL3⟩ : ∃ L3, L3 = L ++ [u] := ⟨_, rfl⟩
                rw [← hL3] at RA AP
                have hl3 : L3.length ≤ 100 + (k + 1) := by rw [hL3]; simp; omega
                have RA := Lib.hid RA
                have AP := Lib.hid AP
                clear hlast hL3
                go_wp2_with fail
                refine RA.out.mono ?_
                rintro e w3 ⟨v3, rfl, ho3, hb3⟩
                obtain ⟨A3, c3, rfl⟩ := own_any ho3
                have R3 := Lib.hid (RefAt.of_own ho3 hgl hrl)
                have B3 := Lib.hid (below_next BN.out hb3)
                have cb3 : w3.cell? ⟨ob, 1, none⟩ = some (.int .u32 (u : Int)) := (hb3.cell (p := ⟨ob, 1, none⟩) obl).trans cb1
                have A4 := Lib.hid (AP.out w3 (XN.out.below hb3))
                have hs3 := hb3.size
                clear RA AP XN SN BN ho3 hb3 cb1
                go_wp2_with fail
                refine A4.out.mono ?_
                rintro e w4 ⟨rfl, r', L', rfl, X4, T4, hr'⟩
                have R4 := Lib.hid (R3.out.move T4.out hr')
                have B4 := Lib.hid (B3.out.trans (T4.out.below hgw hrw' B3.out.size))
                clear A4 R3 cb3 T4
                go_wp2_with fail
                go_meet
                exact ⟨r', L', A3, c3, rfl, by have := B3.out.size; omega, hl3, X4, R4, B4⟩
              · have RA := Lib.hid (rappend_no (c := c') u (by omega) hlast SN.out.sl)
                have AP := ixappend_any u hux (by omega) XN.out
                rw [decide_eq_false hlast] at AP
                simp only [if_neg hlast] at AP
                have AP := Lib.hid AP
                clear hlast
                go_wp2_with fail
                refine RA.out.mono ?_
                rintro e w3 ⟨rfl, rfl⟩
                clear RA
                go_wp2_with fail
                refine AP.out.mono ?_
                rintro e w4 ⟨rfl, r', L', rfl, X4, T4, hr'⟩
                have R4 := Lib.hid (SN.out.move T4.out hr')
                have B4 := Lib.hid (BN.out.trans (T4.out.below hgw hrw' BN.out.size))
                clear AP SN cb1 T4
                go_wp2_with fail
                go_meet
                exact ⟨r', L', A', c', rfl, by have := BN.out.size; omega, by omega, X4, R4, B4⟩
            · have hk0 : (kd == 0) = false := beq_eq_false_iff_ne.2 hkd
              have hrem : (remL L u).length ≤ L.length := List.length_filter_le _ _
              have hasc := XN.out.asc
              have RP := Lib.hid (fun W (h : RefAt g r W A' L) => rpos_any (c := c') u (by omega) hasc h.sl)
              have RM := Lib.hid (fun W (h : RefAt g r W A' L) => rremove_any (c := c') u (by omega) h.sl)
              have RV := Lib.hid (fun W (hb : Below wn.heap.size wn W) => show Calls Try.prog 13 #[.pointer (some ⟨g, 0, none⟩), .int .u32 u] W (fun e w' => e = .returned (.int .i64 (posL L u : Nat)) ∧ Hid (Ix g r (remL L u) w') ∧ Hid (RefAt g r w' A' L) ∧ Hid (Below w.heap.size w w') ∧ w'.cell? ⟨ob, 1, none⟩ = some (.int .u32 (u : Int))) from
                (ixremove_any u (XN.out.below hb)).mono fun e w' ⟨he, hX, hT⟩ => ⟨he, hX, (SN.out.below hb).two hT.out, (below_next BN.out hb).trans (hT.out.below hgw hrw' (below_next BN.out hb).size), hT.out.cell ((hb.cell (p := ⟨ob, 1, none⟩) obl).trans cb1) (Nat.lt_of_lt_of_le obl hb.size) obg obr⟩)
              clear hkd hasc
              generalize posL L u = q at *
              generalize remL L u = Q at *
              go_upto_region 14 with (fail)
              go_cut [57] (fun s57 wx => s57 = .bool false ∧ Hid (Ix g r Q wx) ∧ Hid (RefAt g r wx A' L) ∧ Hid (Below w.heap.size w wx) ∧ wx.cell? ⟨ob, 1, none⟩ = some (.int .u32 (u : Int)))
              case first =>
                go_region_with (first
                  | (go_at_call 13; refine (RV.out _ (by repeat (first | assumption | exact Below.refl _ _ | refine belowDrawN ?_ _ | refine belowDraw ?_))).mono ?_; rintro e w3 ⟨rfl, X3, R3, B3, cb3⟩)
                  | (go_at_call 14; refine (RP.out _ (by exact R3.out)).mono ?_; rintro e w4 ⟨rfl, rfl⟩))
                all_goals
                  go_wp2_with fail
                  go_meet
                  exact ⟨by simp, by first | exact X3 | exact X3.out.below (below_drew 1), by first | exact R3 | exact R3.out.below (below_drew 1), by first | exact B3 | exact B3.out, cb3⟩
              case rest =>
                obtain ⟨rfl, X3, R3, B3, cb3⟩ := hcut
                have hs3 := B3.out.size
                have RM3 := Lib.hid (RM.out wc R3.out)
                have hX3 := X3.out.lt
                have hX4 := X3.out.ltr
                clear RP RV RM XN SN BN cb1
                go_wp2_with fail
                refine RM3.out.mono ?_
                rintro e w5 ⟨v5, rfl, ho5, hb5⟩
                obtain ⟨A5, c5, rfl⟩ := own_any ho5
                have R5 := Lib.hid (RefAt.of_own ho5 hX3 hX4)
                have X5 := Lib.hid (X3.out.below hb5)
                have B5 := Lib.hid (below_next B3.out hb5)
                clear RM3 X3 R3 B3 cb3 ho5 hb5
                go_wp2_with fail
                go_meet
                exact ⟨r, Q, A5, c5, rfl, hrw', by omega, X5, R5, B5⟩
          case rest =>
            obtain ⟨r', L', A'', c'', rfl, hr', hl', X4, R4, B4⟩ := hcut
            clear XN SN BN cb1 obl obg obr hrl hgl
            have LN := Lib.hid (ixlen_any X4.out)
            have AA := Lib.hid (all_any (.inr ⟨rfl, X4.out⟩) (by omega))
            go_wp2_with fail
            refine LN.out.mono ?_
            rintro e w5 ⟨rfl, rfl⟩
            clear LN
            go_wp2_with fail
            refine AA.out.mono ?_
            rintro e w5 ⟨v5, rfl, ho5, hb5⟩
            obtain ⟨A5, c5, rfl⟩ := own_any ho5
            have X5 := Lib.hid (X4.out.below hb5)
            have R5 := Lib.hid (R4.out.below hb5)
            have B5 := Lib.hid (below_next B4.out hb5)
            have EQ := Lib.hid (eq_call (c := c5) (d := c'') (by omega) (SlAt.of_own encU_len ho5) R5.out.sl)
            clear AA X4 R4 B4 ho5 hb5
            go_wp2_with fail
            refine EQ.out.mono ?_
            rintro e w6 ⟨rfl, hb6⟩
            have X6 := Lib.hid (X5.out.below hb6)
            have R6 := Lib.hid (R5.out.below hb6)
            have B6 := Lib.hid (below_next B5.out hb6)
            clear EQ X5 R5 B5 hb6
            go_wp2_with fail
            go_roundw
            case rel => exact ⟨k + 1, r', L', A'', c'', rfl, by go_num, by omega, hr', by omega, X6, R6, B6⟩
            case measure => simp [intOf]; omega
        · go_wp2_with fail
          refine (AL _).out.mono ?_
          rintro e w3 ⟨rfl, hb3⟩
          have B3 := Lib.hid (below_next BK.out hb3)
          clear hb3 BK XK SK
          go_wp2_with fail
          go_ret
          exact ⟨rfl, B3.out⟩
    · have hg2 : (100 : Int) < (lo.length : Int) := by omega
      clear hS hb hSo hbo
      go_enter Try.func3, Try.ntmps3
      go_wp2_with fail
      refine (AL _).out.mono ?_
      rintro e w3 ⟨rfl, hb3⟩
      have hb3 := Lib.hid hb3
      go_wp2_with fail
      go_ret
      exact ⟨rfl, hb3.out⟩
  · have hg : (100 : Int) < (l.length : Int) := by omega
    clear hS hb hSo hbo
    go_enter Try.func3, Try.ntmps3
    go_wp2_with fail
    refine (AL _).out.mono ?_
    rintro e w3 ⟨rfl, hb3⟩
    have hb3 := Lib.hid hb3
    go_wp2_with fail
    go_ret
    exact ⟨rfl, hb3.out⟩
end Go.Proofs.Ytkehlknnonppjaa
