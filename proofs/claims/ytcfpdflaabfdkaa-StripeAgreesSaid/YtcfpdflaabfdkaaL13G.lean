/- The law StripeAgrees. -/
import Derived.Test.YtcfpdflaabfdkaaL13P
namespace Go.Proofs.Ytcfpdflaabfdkaa
open Go.RowKit

section
variable {B ga na gb nb : Nat} {Sa Sb S1 S2 : Nat → Prop} {A A1 A2 : Option Addr} {L L2 : List MI} {w w1 w2 : World}
/-- A table that stands beside, behind a call of the other. -/
theorem PlS.beside (pb : PlS B gb nb Sb A L w) (pa : PlS B ga na Sa A L w) (hd : ∀ k, Sa k → ¬ Sb k) (k1 : KeptO Sa w w1) : PlS B gb nb Sb A L w1 :=
  ⟨pb.tb.kept k1 fun k hb ha => hd k ha hb, pb.sb, Nat.le_trans pb.bw k1.size, pb.sl.keptO pa.out k1, pb.out, fun a ha => Nat.lt_of_lt_of_le (pb.lt a ha) k1.size, fun m hm => (pb.by_ m hm).below (k1.below pa.sb pa.bw)⟩
theorem dis_more (hd : ∀ k, Sa k → ¬ Sb k) (m1 : More Sa S1 w) (hb : ∀ k, Sb k → k < w.heap.size) : ∀ k, S1 k → ¬ Sb k := fun k h1 h2 => by
  rcases m1.2 k h1 with e | e
  · exact hd k e h2
  · have := hb k h2
    omega
/-- .. and then of this one, with the list it gave. -/
theorem PlS.again (pa : PlS B ga na Sa A L w) (m1 : More Sa S1 w) (pa1 : PlS B ga na S1 A1 L2 w1) (pb2 : PlS B gb nb S2 A2 L2 w2) (hd1 : ∀ k, S1 k → ¬ Sb k) (k2 : KeptO Sb w1 w2) (fr : Fr A A2 w1) : PlS B ga na S1 A2 L2 w2 := by
  refine ⟨pa1.tb.kept k2 hd1, pa1.sb, pb2.bw, pb2.sl, ?_, pb2.lt, pb2.by_⟩
  rcases fr with rfl | h
  · exact pa.out' m1
  · intro a ha hs
    have := h a ha
    have := pa1.tb.lt _ hs
    omega
end
theorem sum_take_le (l : List Nat) (k : Nat) : (l.take k).sum ≤ l.sum := by
  conv => rhs; rw [← List.take_append_drop k l]
  rw [List.sum_append]
  omega
theorem SlAt.oneZ {w : World} {A : Option Addr} {l : List Nat} (h : SlAt encZ 1 w A l) {j : Nat} (hj : j < l.length) :
    ∃ b off, A = some ⟨b, off, none⟩ ∧ b < w.heap.size ∧ w.cell? ⟨b, off + j, none⟩ = some (.int .i64 (l[j] : Int)) := by
  obtain ⟨b, off, hA, hb, hc⟩ := h.at_ hj
  exact ⟨b, off, hA, hb, by simpa using hc 0 _ rfl⟩
theorem new16 (n : Nat) (w : World) : Calls Try.prog 11 #[.int .i64 (1 + ((n % 16 : Nat) : Int))] w fun e w' => ∃ g S, e = .returned (.pointer (some ⟨g, 0, none⟩)) ∧ Tb g (1 + n % 16) S [] w' ∧ (∀ k, S k → w.heap.size ≤ k) ∧ Below w.heap.size w w' := by
  have h := tnew_any (1 + n % 16) (by omega) w
  rw [show (((1 + n % 16 : Nat)) : Int) = 1 + ((n % 16 : Nat) : Int) by omega] at h
  exact h

set_option maxRecDepth 100000 in
set_option maxHeartbeats 4000000 in
theorem agrees_main (n m : Nat) (hn : n ≤ 255) (hm : m ≤ 255) (Ao : Option Addr) (co : Nat) (lo : List OI) (hlm : lo.length ≤ maxLen) (hfew : fewO lo = true) (w : World) (hok : ∀ o ∈ lo, MIok o.m ∧ (-9223372036854775808 ≤ o.mode ∧ o.mode ≤ 9223372036854775807) ∧ ByAt w.heap.size w o.m.A o.m.k o.m.b) (hS : SlAt encP 5 w Ao lo) :
    Calls Try.prog 4 #[.int .u8 n, .int .u8 m, .slice Ao lo.length co] w fun e w' => e = .returned (.bool true) ∧ Below w.heap.size w w' := by
  have h60 : lo.length ≤ 60 := by
    unfold fewO at hfew
    rw [Bool.and_eq_true] at hfew
    simpa using hfew.2
  have FW := Lib.hid (few13_any lo Ao co hlm w hS)
  rw [hfew] at FW
  have N1 := Lib.hid (fun W => new16 n W)
  have N2 := Lib.hid (fun W => new16 m W)
  have AL := Lib.hid (fun W => alive13_any W)
  have HOK := Lib.hid hok
  have HS := Lib.hid hS
  have hnI : (n : Int) < 256 := by omega
  have hmI : (m : Int) < 256 := by omega
  have hnm : Int.tmod (n : Int) 16 = ((n % 16 : Nat) : Int) := by rw [Int.tmod_eq_emod_of_nonneg (by omega)]; rfl
  have hmm : Int.tmod (m : Int) 16 = ((m % 16 : Nat) : Int) := by rw [Int.tmod_eq_emod_of_nonneg (by omega)]; rfl
  have hn16 : n % 16 < 16 := Nat.mod_lt _ (by omega)
  have hm16 : m % 16 < 16 := Nat.mod_lt _ (by omega)
  clear hok hS hfew hlm
  generalize n % 16 = na at *
  generalize m % 16 = nb at *
  have hnaI : (na : Int) < 16 := by omega
  have hnbI : (nb : Int) < 16 := by omega
  go_enter Try.func4, Try.ntmps4
  go_wp2_with fail
  refine FW.out.mono ?_
  rintro e w1 ⟨rfl, hb1⟩
  go_wp2_with fail
  refine (N1.out _).mono ?_
  rintro e w2 ⟨ga, Sa, rfl, ta, sa, hb2⟩
  have TA := Lib.hid ta
  have HB2 := Lib.hid (below_next hb1 hb2)
  have SA := Lib.hid (fun k hk => Nat.le_trans hb1.size (sa k hk))
  clear ta sa hb1 hb2 FW N1
  go_wp2_with fail
  refine (N2.out _).mono ?_
  rintro e w3 ⟨gb, Sb, rfl, tb, sb, hb3⟩
  have HD := Lib.hid (show ∀ k, Sa k → ¬ Sb k from fun k h1 h2 => by have := TA.out.lt k h1; have := sb k h2; omega)
  have PA := Lib.hid (show PlS w.heap.size ga (1 + na) Sa none [] w3 from ⟨TA.out.below hb3, SA.out, (below_next HB2.out hb3).size, .inl rfl, Out.none _, fun a ha => (by cases ha), fun m hm => (by cases hm)⟩)
  have PB := Lib.hid (show PlS w.heap.size gb (1 + nb) Sb none [] w3 from ⟨tb, fun k hk => Nat.le_trans HB2.out.size (sb k hk), (below_next HB2.out hb3).size, .inl rfl, Out.none _, fun a ha => (by cases ha), fun m hm => (by cases hm)⟩)
  have HB3 := Lib.hid (below_next HB2.out hb3)
  clear hb3 tb sb TA HB2 SA N2
  go_wp2_with fail
  go_loopw [9, 44] (fun s9 s44 wr => ∃ (k : Nat) (L : List MI) (A' : Option Addr) (c' : Nat) (Sa Sb : Nat → Prop), s9 = .slice A' L.length c' ∧ s44 = .int .i64 k ∧ k ≤ lo.length ∧ L.length ≤ k ∧ Hid (PlS w.heap.size ga (1 + na) Sa A' L wr) ∧ Hid (PlS w.heap.size gb (1 + nb) Sb A' L wr) ∧ Hid (∀ k, Sa k → ¬ Sb k) ∧ Hid (Below w.heap.size w wr)) (fun _ s44 _ => lo.length - (intOf s44).toNat)
  case atStart => exact ⟨0, [], none, 0, Sa, Sb, rfl, rfl, Nat.zero_le _, Nat.zero_le _, PA, PB, HD, HB3⟩
  case round =>
    clear PA PB HD HB3
    obtain ⟨k, L, A', c', Sa, Sb, rfl, rfl, hk, hLk, PA, PB, HD, BK⟩ := hrel
    by_cases hlt : k < lo.length
    · obtain ⟨b, off, rfl, hbs, x0, x1, x2, x3, x4⟩ := (HS.out.below BK.out).op13 hlt
      obtain ⟨hmok, hmo, hby⟩ := HOK.out lo[k] (List.getElem_mem hlt)
      have hNL := nextM_len L lo[k]
      have hLo : L.length ≤ 100000 := by omega
      have P1 := Lib.hid (fun W (hB : Below wr.heap.size wr W) => play_any w.heap.size ga (1 + na) Sa A' c' L lo[k] W (PA.out.below hB) hLo hmok hmo (hby.below (below_next BK.out hB)))
      have P2 := Lib.hid (fun W (hp : PlS w.heap.size gb (1 + nb) Sb A' L W) (hB : Below w.heap.size w W) => play_any w.heap.size gb (1 + nb) Sb A' c' L lo[k] W hp hLo hmok hmo (hby.below hB))
      unfold opV at P1 P2
      generalize nextM L lo[k] = L2 at *
      generalize lo[k].kind = y0 at *
      generalize lo[k].m.u = y1 at *
      generalize lo[k].m.f = y2 at *
      generalize lo[k].m.A = y3 at *
      generalize lo[k].m.b.length = y4 at *
      generalize lo[k].m.k = y5 at *
      generalize lo[k].mode = y6 at *
      clear hmok hmo hby
      go_wp2_with fail
      refine (P1.out _ (below_al _ _)).mono ?_
      rintro e w4 ⟨S4, A4, c4, rfl, p4, m4, k4, -⟩
      have hnb : ¬ Sa wr.heap.size := fun h => by have := PA.out.tb.lt _ h; omega
      have hbox := k4.heap (heap_alloc_new _ _) hnb
      obtain ⟨z0, z1, z2⟩ : w4.cell? ⟨wr.heap.size, 0, none⟩ = some (.int .i64 y0) ∧ w4.cell? ⟨wr.heap.size, 1, none⟩ = some (.int .u32 (y1 : Int)) ∧ w4.cell? ⟨wr.heap.size, 2, none⟩ = some (.int .u8 (y2 : Int)) := ⟨cell_of_row _ _ 0 _ _ _ hbox, cell_of_row _ _ 1 _ _ _ hbox, cell_of_row _ _ 2 _ _ _ hbox⟩
      have z3 := cell_of_row _ _ 3 _ _ _ hbox
      have z4 := cell_of_row _ _ 4 _ _ _ hbox
      have hal := below_al wr (.cells #[.int .i64 y0, .int .u32 (y1 : Int), .int .u8 (y2 : Int), .slice y3 y4 y5, .int .i64 y6] 35)
      have B4 := Lib.hid (BK.out.trans ((KeptO.after_below hal k4).below PA.out.sb BK.out.size))
      have PB4 := Lib.hid ((PB.out.below hal).beside (PA.out.below hal) HD.out k4)
      have D4 := Lib.hid (dis_more HD.out m4 (PB.out.below hal).tb.lt)
      have PA0 := Lib.hid (PA.out.below hal)
      have M4 := Lib.hid m4
      have P4 := Lib.hid p4
      have Q2 := Lib.hid (P2.out w4 PB4.out B4.out)
      clear hbox hal p4 m4 k4 P1 P2 PA PB HD BK x0 x1 x2 x3 x4
      go_wp2_with fail
      refine Q2.out.mono ?_
      rintro e w5 ⟨S5, A5, c5, rfl, p5, m5, k5, fr5⟩
      have PA5 := Lib.hid (PA0.out.again M4.out P4.out p5 D4.out k5 fr5)
      have PB5 := Lib.hid p5
      have D5 := Lib.hid (show ∀ k, S4 k → ¬ S5 k from fun k h1 h2 => dis_more (fun k a b => D4.out k b a) m5 P4.out.tb.lt k h2 h1)
      have B5 := Lib.hid (B4.out.trans (k5.below PB4.out.sb B4.out.size))
      clear p5 m5 k5 fr5 PA0 M4 P4 D4 PB4 Q2 B4 z0 z1 z2 z3 z4
      go_wp2_with fail
      go_roundw
      case rel => exact ⟨k + 1, L2, A5, c5, S4, S5, rfl, by go_num, by omega, by omega, PA5, PB5, D5, B5⟩
      case measure => simp [intOf]; omega
    · obtain rfl : k = lo.length := by omega
      have hLo : L.length ≤ 100000 := by omega
      have T1 := Lib.hid (tsizes_any PA.out.tb hLo)
      go_wp2_with fail
      refine T1.out.mono ?_
      rintro e w4 ⟨v4, S4, rfl, ho4, t4, m4, k4⟩
      obtain ⟨A4, c4, rfl⟩ := own_any ho4
      have PB4 := Lib.hid (PB.out.beside PA.out HD.out k4)
      have D4 := Lib.hid (dis_more HD.out m4 PB.out.tb.lt)
      have P4 := Lib.hid (PA.out.same m4 k4 t4)
      have B4 := Lib.hid (BK.out.trans (k4.below PA.out.sb BK.out.size))
      have R4 := Lib.hid (SlAt.of_own encZ_len ho4)
      have hs1 := szM_sum L (1 + na) (by omega)
      have hl1 := szM_len L (1 + na)
      generalize szM L (1 + na) = Z1 at *
      clear ho4 t4 m4 k4 T1 PA PB HD BK
      go_wp2_with fail
      go_loopw [16, 73] (fun s16 s73 wq => ∃ (k x : Nat), s16 = .int .i64 x ∧ s73 = .int .i64 k ∧ k ≤ Z1.length ∧ Hid (x = (Z1.take k).sum) ∧ w4 = wq) (fun _ s73 _ => Z1.length - (intOf s73).toNat)
      case atStart => exact ⟨0, 0, rfl, rfl, Nat.zero_le _, Lib.hid rfl, rfl⟩
      case round =>
        obtain ⟨k, x, rfl, rfl, hk, hx, rfl⟩ := hrel
        by_cases hlt : k < Z1.length
        · obtain ⟨b, off, rfl, hb, hc⟩ := R4.out.oneZ hlt
          have hle := sum_take_le Z1 (k + 1)
          have hx2 := Lib.hid (show x + Z1[k] = (Z1.take (k + 1)).sum by rw [List.take_succ_eq_append_getElem hlt, List.sum_append, hx.out]; simp)
          have hx3 : x + Z1[k] ≤ L.length := by rw [hx2.out]; omega
          generalize Z1[k] = y at *
          go_wp2_with fail
          go_roundw
          case rel => exact ⟨k + 1, x + y, by go_num, by go_num, by omega, hx2, trivial⟩
          case measure => simp [intOf]; omega
        · obtain rfl : k = Z1.length := by omega
          obtain rfl : x = L.length := by rw [hx.out, List.take_length, hs1]
          have T2 := Lib.hid (tsizes_any PB4.out.tb hLo)
          clear hx R4
          go_wp2_with fail
          refine T2.out.mono ?_
          rintro e w5 ⟨v5, S5, rfl, ho5, t5, m5, k5⟩
          obtain ⟨A5, c5, rfl⟩ := own_any ho5
          have PA5 := Lib.hid (P4.out.beside PB4.out (fun k a b => D4.out k b a) k5)
          have D5 := Lib.hid (dis_more (fun k a b => D4.out k b a) m5 P4.out.tb.lt)
          have PB5 := Lib.hid (PB4.out.same m5 k5 t5)
          have B5 := Lib.hid (B4.out.trans (k5.below PB4.out.sb B4.out.size))
          have R5 := Lib.hid (SlAt.of_own encZ_len ho5)
          have hs2 := szM_sum L (1 + nb) (by omega)
          have hl2 := szM_len L (1 + nb)
          generalize szM L (1 + nb) = Z2 at *
          clear ho5 t5 m5 k5 T2 P4 PB4 D4 B4
          go_wp2_with fail
          go_loopw [17, 84] (fun s17 s84 wq => ∃ (k x : Nat), s17 = .int .i64 x ∧ s84 = .int .i64 k ∧ k ≤ Z2.length ∧ Hid (x = (Z2.take k).sum) ∧ w5 = wq) (fun _ s84 _ => Z2.length - (intOf s84).toNat)
          case atStart => exact ⟨0, 0, rfl, rfl, Nat.zero_le _, Lib.hid rfl, rfl⟩
          case round =>
            obtain ⟨k, x, rfl, rfl, hk, hx, rfl⟩ := hrel
            by_cases hlt : k < Z2.length
            · obtain ⟨b, off, rfl, hb, hc⟩ := R5.out.oneZ hlt
              have hle := sum_take_le Z2 (k + 1)
              have hx2 := Lib.hid (show x + Z2[k] = (Z2.take (k + 1)).sum by rw [List.take_succ_eq_append_getElem hlt, List.sum_append, hx.out]; simp)
              have hx3 : x + Z2[k] ≤ L.length := by rw [hx2.out]; omega
              generalize Z2[k] = y at *
              go_wp2_with fail
              go_roundw
              case rel => exact ⟨k + 1, x + y, by go_num, by go_num, by omega, hx2, trivial⟩
              case measure => simp [intOf]; omega
            · obtain rfl : k = Z2.length := by omega
              obtain rfl : x = L.length := by rw [hx.out, List.take_length, hs2]
              clear hx R5
              go_wp2_with fail
              refine (AL.out _).mono ?_
              rintro e w6 ⟨rfl, hb6⟩
              have PA6 := Lib.hid (PA5.out.below hb6)
              have PB6 := Lib.hid (PB5.out.below hb6)
              have B6 := Lib.hid (below_next B5.out hb6)
              have W1 := Lib.hid (twith_any 0 (Nat.zero_le _) PA6.out.tb hLo)
              clear PA5 PB5 B5 hb6 AL
              go_wp2_with fail
              refine W1.out.mono ?_
              rintro e w7 ⟨O, v7, S7, rfl, hO, hOl, ho7, t7, m7, k7⟩
              obtain ⟨A7, c7, rfl⟩ := own_any ho7
              have PB7 := Lib.hid (PB6.out.beside PA6.out (fun k a b => D5.out k b a) k7)
              have B7 := Lib.hid (B6.out.trans (k7.below PA6.out.sb B6.out.size))
              have HO7 := Lib.hid ho7
              have HN7 := Lib.hid (show Out S5 A7 from own_out ho7 fun k hk => PB6.out.tb.lt k hk)
              have W2 := Lib.hid (twith_any 0 (Nat.zero_le _) PB7.out.tb hLo)
              clear ho7 t7 m7 k7 W1 PA6 PB6 B6
              go_wp2_with fail
              refine W2.out.mono ?_
              rintro e w8 ⟨O', v8, S8, rfl, hO', hOl', ho8, t8, m8, k8⟩
              obtain rfl : O = O' := hO.det hO'
              obtain ⟨A8, c8, rfl⟩ := own_any ho8
              have EQ := Lib.hid (equalU13_any A7 A8 c7 c8 O O (by omega) (by omega) w8 ((SlAt.of_own encU_len HO7.out).keptO HN7.out k8) (SlAt.of_own encU_len ho8))
              rw [decide_eq_true rfl] at EQ
              have B8 := Lib.hid (B7.out.trans (k8.below PB7.out.sb B7.out.size))
              clear ho8 t8 m8 k8 W2 PB7 B7 HO7 HN7 hO hO'
              go_wp2_with fail
              refine EQ.out.mono ?_
              rintro e w9 ⟨rfl, hb9⟩
              have HB9 := below_next B8.out hb9
              clear hb9 EQ
              go_wp2_with fail
              go_ret
              exact ⟨rfl, HB9⟩

set_option maxRecDepth 100000 in
set_option maxHeartbeats 1000000 in
theorem agrees_many (n m : Nat) (Ao : Option Addr) (co : Nat) (lo : List OI) (hlm : lo.length ≤ maxLen) (hfew : fewO lo = false) (w : World) (hS : SlAt encP 5 w Ao lo) :
    Calls Try.prog 4 #[.int .u8 n, .int .u8 m, .slice Ao lo.length co] w fun e w' => e = .returned (.bool true) ∧ Below w.heap.size w w' := by
  have FW := Lib.hid (few13_any lo Ao co hlm w hS)
  rw [hfew] at FW
  have AL := Lib.hid (fun W => alive13_any W)
  clear hS hfew hlm
  go_enter Try.func4, Try.ntmps4
  go_wp2_with fail
  refine FW.out.mono ?_
  rintro e w1 ⟨rfl, hb1⟩
  go_wp2_with fail
  refine (AL.out _).mono ?_
  rintro e w2 ⟨rfl, hb2⟩
  have HB2 := below_next hb1 hb2
  go_wp2_with fail
  go_ret
  exact ⟨rfl, HB2⟩
theorem stripeAgrees_any (n : Nat) (hn : n ≤ 255) (m : Nat) (hm : m ≤ 255) (Ao : Option Addr) (co : Nat) (lo : List OI) (_ : lo.length ≤ co) (hlm : lo.length ≤ maxLen) {w : World} (hok : ∀ o ∈ lo, MIok o.m ∧ (-9223372036854775808 ≤ o.kind ∧ o.kind ≤ 9223372036854775807) ∧ (-9223372036854775808 ≤ o.mode ∧ o.mode ≤ 9223372036854775807) ∧ ByAt w.heap.size w o.m.A o.m.k o.m.b) (_ : World) (hS : SlAt encP 5 w Ao lo) :
    Calls Try.prog 4 #[.int .u8 n, .int .u8 m, .slice Ao lo.length co] w fun e w' => e = .returned (.bool true) ∧ Below w.heap.size w w' := by
  cases hfew : fewO lo with
  | false => exact agrees_many n m Ao co lo hlm hfew w hS
  | true => exact agrees_main n m hn hm Ao co lo hlm hfew w (fun o ho => ⟨(hok o ho).1, (hok o ho).2.2.1, (hok o ho).2.2.2⟩) hS
end Go.Proofs.Ytcfpdflaabfdkaa
