/- The law StoreNil. -/
import Derived.Test.YthdbbappojkmoaaGreatHx
import Derived.Test.YthdbbappojkmoaaGreatNi16
import Derived.Test.YthdbbappojkmoaaGreatEqB
namespace Go.Proofs.YthdbbappojkmoaaGreat
open Go.RowKit

theorem inc_byte16 (x : UInt8) : IntKind.u8.wrap ((x.toNat : Int) + 1) = ((x + 1).toNat : Int) := by
  have h := x.toNat_lt
  have e : (x + 1).toNat = (x.toNat + 1) % 256 := by rw [UInt8.toNat_add]; rfl
  rw [e]
  simp [IntKind.wrap, IntKind.bits, IntKind.signed]
def stN (b : List UInt8) : StP := (appP (newP 1 3 1) 0 b).1
theorem stN_res {b : List UInt8} (h : b.length ≤ 200) : (appP (newP 1 3 1) 0 b).2 = (1, 0) ∧ fndP (stN b).ms 1 = some ⟨1, 0, b⟩ := by
  unfold stN
  rw [app_ok (by omega) (by omega) (by show 0 < 3; omega) (by show max 1 1 < _; decide)]
  exact ⟨rfl, rfl⟩
set_option maxRecDepth 100000 in
set_option maxHeartbeats 1000000 in
theorem nil_main (A : Option Addr) (c : Nat) (l : List UInt8) (hl : l.length ≤ 200) (u : Nat) (_hu : u ≤ 4294967295) (w : World) (hS : ByAt w.heap.size w A c l) :
    Calls Tryz.prog 5 #[.slice A l.length c, .int .u32 u] w fun e w' => e = .returned (.bool true) ∧ Below w.heap.size w w' := by
  obtain ⟨i0, hi, hz0, hz1, hz2⟩ := info_parts (show (Tryz.prog.info? 5).map (fun i => (i.zero, i.size, i.bytes)) = some (some (.int .u8 0), 1, 1) by kernel_rfl)
  have h1 : ¬ (200 : Int) < (l.length : Int) := by omega
  have N := Lib.hid (sx_new 1 3 1 (by decide) (by decide) (by decide) w)
  have AL := Lib.hid (fun W => alive16_any W)
  have HS := Lib.hid hS
  have HR := Lib.hid (stN_res hl)
  clear hS
  go_enter Tryz.func5, Tryz.ntmps5
  go_wp2_with fail
  refine N.out.mono ?_
  rintro e w1 ⟨g, rfl, x1⟩
  have BE := Lib.hid (below_al w1 (.cells #[] 5))
  have HSA := Lib.hid ((HS.out.sl.below x1.be).below BE.out)
  have HOE := Lib.hid (own_empty (sz := 1) (heap_alloc_new w1 (.cells #[] 5)) (Nat.le_refl _))
  have HSZ := Lib.hid BE.out.size
  have H63 := Lib.hid (show 0 + l.length ≤ maxLen by unfold maxLen; omega)
  have HBT := Lib.hid (show (0 + l.length) * 1 ≤ 140737488355328 by omega)
  have X1 := Lib.hid x1
  clear x1 N
  go_wp2_with (at_builtin; refine wpList_append_sl _ rfl _ _ 33 rfl w1.heap.size 5 i0 _ 1 Tryz.underlying33 hi hz0 hz1 hz2 rfl (by decide) _ 0 [] rfl HOE.out A l c rfl encB_len HSA.out (one_flatB l) H63.out HBT.out HSZ.out ?_; intro v2 w2 hown2 hg2; rw [Nat.zero_add, List.nil_append] at hown2; obtain ⟨A2, c2, rfl⟩ := own_any hown2; have X2 := Lib.hid (X1.out.addB (BE.out.grown hg2 HSZ.out (fun kk hkk => (HOE.out.lt kk hkk).1)) hown2); have C2 := X2.out.app 0 (by decide) A2 c2 l (ByAt.of_own hown2) (.inr (.inr ⟨_, List.mem_cons_self .., fun a ha => ⟨a, ha, rfl⟩⟩)) ((smallP_new _ _ _).mono (by decide)); rw [HR.out.1] at C2; have C2 := Lib.hid C2; clear hown2 hg2 HOE HSA BE X1)
  refine C2.out.mono ?_
  rintro e w3 ⟨rfl, x3⟩
  have C3 := Lib.hid (OX.get (st := stN l) x3 1 (by decide) _ HR.out.2)
  clear x3 C2 X2
  go_wp2_with fail
  refine C3.out.mono ?_
  rintro e w4 ⟨A4, c4, rfl, x4, ap4⟩
  have HAP := Lib.hid (ap4 _ (List.mem_cons_self ..))
  have D4 := below_al w4 (.cells #[.int .u32 1, .int .u8 0, .slice A4 l.length c4] 52)
  have x5 := x4.add (ST.objK g _) D4 [boxI w4.heap.size (.cells #[.int .u32 1, .int .u8 0, .slice A4 l.length c4] 52)] (by
    intro it hi
    obtain rfl := List.mem_singleton.1 hi
    exact ⟨heap_alloc_new _ _, fun k hk => by cases hk; exact Nat.le_refl _⟩)
  have HN2 := Lib.hid (show ApI (boxI w4.heap.size (.cells #[.int .u32 1, .int .u8 0, .slice A4 l.length c4] 52)) (u8I w.heap.size A2 c2 l) from fun k h1 h2 => by
    cases h1
    exact Nat.lt_irrefl _ ((u8I w.heap.size A2 c2 l).lt w4 (x4.it _ (by simp)) _ h2))
  have HN4 := Lib.hid (show ApI (boxI w4.heap.size (.cells #[.int .u32 1, .int .u8 0, .slice A4 l.length c4] 52)) (u8I w.heap.size A4 c4 l) from fun k h1 h2 => by
    cases h1
    exact Nat.lt_irrefl _ ((u8I w.heap.size A4 c4 l).lt w4 (x4.it _ (by simp)) _ h2))
  have X5 := Lib.hid (show OX w.heap.size (ST g (stN l)) [u8I w.heap.size A2 c2 l, boxI w4.heap.size (.cells #[.int .u32 1, .int .u8 0, .slice A4 l.length c4] 52), u8I w.heap.size A4 c4 l] w _ from x5.sub (by intro it h; simp at h ⊢; rcases h with h | h | h <;> simp [h]))
  clear x4 x5 ap4 D4 C3
  go_wp2_with fail
  generalize hw5 : w4.alloc (.cells #[.int .u32 1, .int .u8 0, .slice A4 l.length c4] 52) = w5 at *
  clear hw5
  generalize w4.heap.size = bm at *
  go_loopw [48] (fun i wr => ∃ k : Nat, k ≤ l.length ∧ i = .int .i64 k ∧ ∃ d : List UInt8, Hid (d.length = l.length) ∧ Hid (OX w.heap.size (ST g (stN l)) [u8I w.heap.size A2 c2 d, boxI bm (.cells #[.int .u32 1, .int .u8 0, .slice A4 l.length c4] 52), u8I w.heap.size A4 c4 l] w wr)) (fun i _ => l.length - (intOf i).toNat)
  case atStart => exact ⟨0, Nat.zero_le _, rfl, l, Lib.hid rfl, X5⟩
  case round =>
    obtain ⟨k, hk, rfl, d, hd, hx⟩ := hrel
    have hk0 : (0 : Int) ≤ (k : Int) := by omega
    clear X5
    by_cases hlt : k < l.length
    · have hk1 : (k : Int) < (l.length : Int) := by omega
      have hkd : k < d.length := by rw [hd.out]; exact hlt
      obtain ⟨b, rfl, x0, f0, x6⟩ := hx.out.bump (A := A2) (c := c2) (d := d) (items' := [boxI bm (.cells #[.int .u32 1, .int .u8 0, .slice A4 l.length c4] 52), u8I w.heap.size A4 c4 l]) (by simp) hkd (d[k] + 1) (fun y hy => by
        rcases List.mem_cons.1 hy with rfl | hy
        · exact ⟨by simp, fun k h1 ⟨a, ha, e⟩ => HN2.out k h1 ⟨a, ha, e⟩⟩
        · obtain rfl := List.mem_singleton.1 hy
          exact ⟨by simp, fun k h1 ⟨a, ha, e⟩ => HAP.out k ⟨a, ha, e⟩ h1⟩)
      have hinc := inc_byte16 d[k]
      have HD := Lib.hid (show (d.set k (d[k] + 1)).length = l.length by rw [List.length_set]; exact hd.out)
      have X6 := Lib.hid x6
      generalize d.set k (d[k] + 1) = d2 at *
      generalize ((d[k] + 1).toNat : Int) = y1 at *
      generalize (d[k].toNat : Int) = y0 at *
      clear x6 hx hd
      go_wp2_with fail
      go_roundw
      case rel => exact ⟨k + 1, by omega, by go_num, d2, HD, X6⟩
      case measure => simp [intOf]; omega
    · obtain rfl : k = l.length := by omega
      have hc2 := cell_of_row _ _ 2 _ _ _ (show wr.heap[bm]? = some (.cells #[.int .u32 1, .int .u8 0, .slice A4 l.length c4] 52) from hx.out.it (boxI bm (.cells #[.int .u32 1, .int .u8 0, .slice A4 l.length c4] 52)) (by simp))
      go_wp2_with fail
      generalize wr = wo at *
      go_loopw [61] (fun i wr => ∃ k : Nat, k ≤ l.length ∧ i = .int .i64 k ∧ ∃ d : List UInt8, Hid (d.length = l.length) ∧ Hid (OX w.heap.size (ST g (stN l)) [u8I w.heap.size A4 c4 d, boxI bm (.cells #[.int .u32 1, .int .u8 0, .slice A4 l.length c4] 52)] w wr)) (fun i _ => l.length - (intOf i).toNat)
      case atStart => exact ⟨0, Nat.zero_le _, rfl, l, Lib.hid rfl, Lib.hid (hx.out.sub (by intro it h; simp at h ⊢; rcases h with h | h <;> simp [h]))⟩
      case round =>
        obtain ⟨k, hk, rfl, d, hd, hx⟩ := hrel
        have hk0 : (0 : Int) ≤ (k : Int) := by omega
        by_cases hlt : k < l.length
        · have hk1 : (k : Int) < (l.length : Int) := by omega
          have hkd : k < d.length := by rw [hd.out]; exact hlt
          have hm2 := cell_of_row _ _ 2 _ _ _ (show wr.heap[bm]? = some (.cells #[.int .u32 1, .int .u8 0, .slice A4 l.length c4] 52) from hx.out.it (boxI bm (.cells #[.int .u32 1, .int .u8 0, .slice A4 l.length c4] 52)) (by simp))
          obtain ⟨b, rfl, x0, f0, x6⟩ := hx.out.bump (A := A4) (c := c4) (d := d) (items' := [boxI bm (.cells #[.int .u32 1, .int .u8 0, .slice A4 l.length c4] 52)]) (by simp) hkd (d[k] + 1) (fun y hy => by
            obtain rfl := List.mem_singleton.1 hy
            exact ⟨by simp, fun k h1 ⟨a, ha, e⟩ => HN4.out k h1 ⟨a, ha, e⟩⟩)
          have hinc := inc_byte16 d[k]
          have HD := Lib.hid (show (d.set k (d[k] + 1)).length = l.length by rw [List.length_set]; exact hd.out)
          have X6 := Lib.hid x6
          generalize d.set k (d[k] + 1) = d2 at *
          generalize ((d[k] + 1).toNat : Int) = y1 at *
          generalize (d[k].toNat : Int) = y0 at *
          clear x6 hx hd
          go_wp2_with fail
          go_roundw
          case rel => exact ⟨k + 1, by omega, by go_num, d2, HD, X6⟩
          case measure => simp [intOf]; omega
        · obtain rfl : k = l.length := by omega
          have C7 := Lib.hid (hx.out.get 1 (by decide) _ HR.out.2)
          clear hx hc2
          go_wp2_with fail
          refine C7.out.mono ?_
          rintro e w7 ⟨A7, c7, rfl, x7, _⟩
          have D7 := below_al w7 (.cells #[.int .u32 1, .int .u8 0, .slice A7 l.length c7] 52)
          have x8 := (x7.sub (items' := [u8I w.heap.size A7 c7 l]) (by intro it h; simp at h ⊢; simp [h])).add (ST.objK g _) D7 [boxI w7.heap.size (.cells #[.int .u32 1, .int .u8 0, .slice A7 l.length c7] 52)] (by
            intro it hi
            obtain rfl := List.mem_singleton.1 hi
            exact ⟨heap_alloc_new _ _, fun k hk => by cases hk; exact Nat.le_refl _⟩)
          have X8 := Lib.hid (show OX w.heap.size (ST g (stN l)) [boxI w7.heap.size (.cells #[.int .u32 1, .int .u8 0, .slice A7 l.length c7] 52), u8I w.heap.size A7 c7 l] w _ from x8)
          clear x7 x8 D7 C7
          have Z1 := Lib.hid (fun W => ssub_nil 1 W)
          have Z2 := Lib.hid (fun W => sapp_nil 0 W)
          have Z3 := Lib.hid (fun W => schg_nil 0 u 0 0 W)
          have Z4 := Lib.hid (fun W => sget_nil u W)
          have Z5 := Lib.hid (fun W => sunsub_nil 1 W)
          have Z6 := Lib.hid (fun W => sflush_nil 1 true W)
          have Z7 := Lib.hid (fun W => spend_nil 1 W)
          have Z8 := Lib.hid (fun W => sexp_nil W)
          have Z9 := Lib.hid (fun W => suids_nil W)
          have ZA := Lib.hid (fun W => snext_nil W)
          have ZB := Lib.hid (fun W => svalid_nil W)
          have ZC := Lib.hid (fun W => sstripes_nil W)
          go_wp2_with fail
          refine (Z1.out _).mono ?_
          rintro e w9 ⟨B1, n1, d1, rfl, hb⟩
          have X9 := Lib.hid (X8.out.bel hb)
          clear hb X8 Z1
          go_wp2_with fail
          refine (Z2.out _).mono ?_
          rintro e w10 ⟨rfl, hb⟩
          have X10 := Lib.hid (X9.out.bel hb)
          clear hb X9 Z2
          go_wp2_with fail
          refine (Z3.out _).mono ?_
          rintro e w11 ⟨rfl, hb⟩
          have X11 := Lib.hid (X10.out.bel hb)
          clear hb X10 Z3
          go_wp2_with fail
          refine (Z4.out _).mono ?_
          rintro e w12 ⟨u4, f4, B4, n4, d4, rfl, hb⟩
          have X12 := Lib.hid ((X11.out.bel hb).bel (below_al w12 (.cells #[.int .u32 u4, .int .u8 f4, .slice B4 n4 d4] 52)))
          clear hb X11 Z4
          go_wp2_with fail
          refine (AL.out _).mono ?_
          rintro e w13 ⟨rfl, hb⟩
          have X13 := Lib.hid (X12.out.bel hb)
          clear hb X12 AL
          have hm2 := cell_of_row _ _ 2 _ _ _ (show w13.heap[w7.heap.size]? = some (.cells #[.int .u32 1, .int .u8 0, .slice A7 l.length c7] 52) from X13.out.it (boxI w7.heap.size (.cells #[.int .u32 1, .int .u8 0, .slice A7 l.length c7] 52)) (by simp))
          have EQ := equalB_any _ _ A7 A c7 c l.length l.length l l rfl rfl (by omega) (by omega) w13 (ByAt.of_own (X13.out.it (u8I w.heap.size A7 c7 l) (by simp))) (HS.out.below X13.out.be)
          rw [decide_eq_true rfl] at EQ
          have EQ := Lib.hid EQ
          go_wp2_with fail
          refine EQ.out.mono ?_
          rintro e w14 ⟨rfl, hb⟩
          have X14 := Lib.hid (X13.out.bel hb)
          clear hb X13 EQ hm2
          go_wp2_with fail
          refine (Z5.out _).mono ?_
          rintro e w15 ⟨rfl, hb⟩
          have X15 := Lib.hid (X14.out.bel hb)
          clear hb X14 Z5
          go_wp2_with fail
          refine (Z6.out _).mono ?_
          rintro e w16 ⟨B6, d6, rfl, hb⟩
          have X16 := Lib.hid (X15.out.bel hb)
          clear hb X15 Z6
          go_wp2_with fail
          refine (Z7.out _).mono ?_
          rintro e w17 ⟨rfl, hb⟩
          have X17 := Lib.hid (X16.out.bel hb)
          clear hb X16 Z7
          go_wp2_with fail
          refine (Z8.out _).mono ?_
          rintro e w18 ⟨B8, d8, rfl, hb⟩
          have X18 := Lib.hid (X17.out.bel hb)
          clear hb X17 Z8
          go_wp2_with fail
          refine (Z9.out _).mono ?_
          rintro e w19 ⟨B9, d9, rfl, hb⟩
          have X19 := Lib.hid (X18.out.bel hb)
          clear hb X18 Z9
          go_wp2_with fail
          refine (ZA.out _).mono ?_
          rintro e w20 ⟨rfl, hb⟩
          have X20 := Lib.hid (X19.out.bel hb)
          clear hb X19 ZA
          go_wp2_with fail
          refine (ZB.out _).mono ?_
          rintro e w21 ⟨rfl, hb⟩
          have X21 := Lib.hid (X20.out.bel hb)
          clear hb X20 ZB
          go_wp2_with fail
          refine (ZC.out _).mono ?_
          rintro e w22 ⟨rfl, hb⟩
          have X22 := Lib.hid (X21.out.bel hb)
          clear hb X21 ZC
          have HB := Lib.hid X22.out.be
          clear X22
          go_wp2_with fail
          go_ret
          exact ⟨rfl, HB.out⟩
set_option maxRecDepth 100000 in
theorem storeNil_law (A : Option Addr) (c : Nat) (l : List UInt8) (hlm : l.length ≤ maxLen) (u : Nat) (hu : u ≤ 4294967295) (w : World) (hS : ByAt w.heap.size w A c l) :
    Calls Tryz.prog 5 #[.slice A l.length c, .int .u32 u] w fun e w' => e = .returned (.bool true) ∧ Below w.heap.size w w' := by
  unfold maxLen at hlm
  by_cases h1 : l.length ≤ 200
  · exact nil_main A c l h1 u hu w hS
  · have h1i : (200 : Int) < (l.length : Int) := by omega
    have AL := Lib.hid (fun W => alive16_any W)
    clear h1 hS
    generalize l.length = n1 at *
    go_enter Tryz.func5, Tryz.ntmps5
    go_wp2_with fail
    refine (AL.out _).mono ?_
    rintro e w1 ⟨rfl, hb⟩
    go_wp2_with fail
    go_ret
    exact ⟨rfl, hb⟩
end Go.Proofs.YthdbbappojkmoaaGreat
