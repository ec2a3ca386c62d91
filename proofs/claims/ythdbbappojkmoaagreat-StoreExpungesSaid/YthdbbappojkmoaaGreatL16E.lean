/- The law StoreExpunges. -/
import Derived.Test.YthdbbappojkmoaaGreatHx
import Derived.Test.YthdbbappojkmoaaGreatSxE
import Derived.Test.YthdbbappojkmoaaGreatEx16
import Derived.Test.YthdbbappojkmoaaGreatSorted12
import Derived.Test.YthdbbappojkmoaaGreatSlEqW
namespace Go.Proofs.YthdbbappojkmoaaGreat
open Go.RowKit

set_option maxRecDepth 100000 in
set_option maxHeartbeats 1000000 in
theorem expunges_main (A : Option Addr) (c : Nat) (l : List UInt8) (hl : l.length ≤ 60) (w : World) (hS : ByAt w.heap.size w A c l) :
    Calls Tryz.prog 4 #[.slice A l.length c] w fun e w' => e = .returned (.bool true) ∧ Below w.heap.size w w' := by
  have h1 : ¬ (60 : Int) < (l.length : Int) := by omega
  have N := Lib.hid (sx_new 4 60 1 (by decide) (by decide) (by decide) w)
  have AL := Lib.hid (fun W => alive16_any W)
  go_enter Tryz.func4, Tryz.ntmps4
  go_wp2_with fail
  refine N.out.mono ?_
  rintro e w1 ⟨g, rfl, x1⟩
  have X1 := Lib.hid x1
  clear x1 N
  go_wp2_with fail
  obtain ⟨i0, hi, hz0, hz1, hz2⟩ := info_parts infoU
  have X0 := Lib.hid (show OX w.heap.size (ST g (newP 4 60 1)) [u32I w.heap.size none 0 [], u32I w.heap.size none 0 []] w w1 from (X1.out.addU (Below.refl _ _) ⟨rfl, .inl ⟨rfl, rfl⟩⟩).addU (Below.refl _ _) ⟨rfl, .inl ⟨rfl, rfl⟩⟩)
  have AP0 := Lib.hid (show ApI (u32I w.heap.size none 0 []) (u32I w.heap.size none 0 []) from fun k ⟨a, ha, _⟩ => by cases ha)
  have HS := Lib.hid hS
  clear X1 hS
  go_loopw [20, 4, 5] (fun i vg vs wr => ∃ k : Nat, k ≤ l.length ∧ i = .int .i64 k ∧ ∃ (st : StP) (G Y : List Nat) (A1 : Option Addr) (c1 : Nat) (A2 : Option Addr) (c2 : Nat), vg = .slice A1 G.length c1 ∧ vs = .slice A2 Y.length c2 ∧ Hid (Ex16 k st ∧ goneP st = G ∧ uidsP (expP st) = Y) ∧ Hid (OX w.heap.size (ST g st) [u32I w.heap.size A1 c1 G, u32I w.heap.size A2 c2 Y] w wr) ∧ Hid (ApI (u32I w.heap.size A2 c2 Y) (u32I w.heap.size A1 c1 G))) (fun i _ _ _ => l.length - (intOf i).toNat)
  case atStart => exact ⟨0, Nat.zero_le _, rfl, _, [], [], none, 0, none, 0, rfl, rfl, Lib.hid ⟨Ex16.start, rfl, rfl⟩, X0, AP0⟩
  case round =>
    obtain ⟨k, hk, rfl, st, G, Y, A1, c1, A2, c2, rfl, rfl, ht, hx, hap⟩ := hrel
    have hk0 : (0 : Int) ≤ (k : Int) := by omega
    have hG : G.length ≤ 60 := by rw [← ht.out.2.1]; have := gone_len st; have := ht.out.1.len; omega
    have hY : Y.length ≤ 60 := by rw [← ht.out.2.2]; have := stay_len st; have := ht.out.1.len; omega
    by_cases hlt : k < l.length
    · have hk1 : (k : Int) < (l.length : Int) := by omega
      obtain ⟨b, off, rfl, hb1, hb2, hc⟩ := (HS.out.below hx.out.be).cell hlt
      obtain ⟨hr, ht2, hg2, hy2⟩ := ht.out.1.step (by omega) l[k]
      rw [ht.out.2.1] at hg2
      rw [ht.out.2.2] at hy2
      obtain ⟨u, hu⟩ : ∃ u, k + 1 = u := ⟨_, rfl⟩
      rw [hu] at hr hg2 hy2
      have C1 := Lib.hid (fun W (hW : W = wr.alloc (.cells #[.int .u8 (l[k].toNat : Int)] 5)) => (show Calls Tryz.prog 10 #[.pointer (some ⟨g, 0, none⟩), .int .u8 ((l[k].toNat &&& 31 : Nat) : Int), .slice (some ⟨wr.heap.size, 0, none⟩) 1 1] W fun e w' => e = .returned (.tuple #[.int .u32 (u : Int), .int .i64 0]) ∧ OX w.heap.size (ST g (appP st (l[k].toNat &&& 31) [l[k]]).1) [u32I w.heap.size A1 c1 G, u32I w.heap.size A2 c2 Y] w w' from by
        subst hW
        have ha := (hx.out.add (ST.objK g _) (below_al wr (.cells #[.int .u8 (l[k].toNat : Int)] 5)) [boxI wr.heap.size (.cells #[.int .u8 (l[k].toNat : Int)] 5)] (by
          intro it hi
          obtain rfl := List.mem_singleton.1 hi
          exact ⟨heap_alloc_new _ _, fun k hk => by cases hk; exact Nat.le_refl _⟩)).app (l[k].toNat &&& 31) (Nat.le_trans Nat.and_le_right (by decide)) (some ⟨wr.heap.size, 0, none⟩) 1 [l[k]] (ByAt.lit1 (heap_alloc_new _ _)) (.inr (.inr ⟨_, List.mem_cons_self .., fun a ha => by cases ha; rfl⟩)) (ht.out.1.small 50000)
        rw [hr] at ha
        exact ha.mono fun _ _ ⟨h1, h2⟩ => ⟨h1, h2.drop⟩))
      have e1 : bits BinOp.and IntKind.u8 (l[k].toNat : Int) 31 = ((l[k].toNat &&& 31 : Nat) : Int) := u8_and_nat l[k].toNat 31 l[k].toNat_lt (by omega)
      have e2 : bits BinOp.and IntKind.u8 (l[k].toNat : Int) 4 = ((l[k].toNat &&& 4 : Nat) : Int) := u8_and_nat l[k].toNat 4 l[k].toNat_lt (by omega)
      generalize (appP st (l[k].toNat &&& 31) [l[k]]).1 = st2 at *
      generalize l[k].toNat &&& 31 = f31 at *
      generalize l[k].toNat &&& 4 = f4 at *
      generalize (l[k].toNat : Int) = f at *
      by_cases hd : f4 ≠ 0
      · rw [if_pos hd] at hg2 hy2
        have T2 := Lib.hid (show Ex16 (k + 1) st2 ∧ goneP st2 = G ++ [u] ∧ uidsP (expP st2) = Y from ⟨ht2, hg2, hy2⟩)
        have hq : ((f4 : Int) == 0) = false := beq_eq_false_iff_ne.2 (by omega)
        clear ht hx hr ht2 hg2 hy2 hd
        go_wp2_with fail
        refine (C1.out _ rfl).mono ?_
        rintro e w2 ⟨rfl, x2⟩
        clear C1
        have D1 := below_al w2 (.cells #[.int .u32 (u : Int)] 27)
        have HOW := Lib.hid (own_below (x2.it (u32I w.heap.size A1 c1 G) (by simp)) D1)
        have HSL := Lib.hid (slAt_x (w := w2.alloc (.cells #[.int .u32 (u : Int)] 27)) (b := w2.heap.size) (x := u) (by rw [cell_of_row _ _ _ _ _ _ (heap_alloc_new w2 (.cells #[.int .u32 (u : Int)] 27))]; rfl) (by simp))
        have hba : w.heap.size ≤ (w2.alloc (.cells #[.int .u32 (u : Int)] 27)).heap.size := Nat.le_trans x2.sz D1.size
        have h63 : G.length + [u].length ≤ maxLen := by show G.length + 1 ≤ 9223372036854775807; omega
        have h64 : (G.length + [u].length) * 4 ≤ 140737488355328 := by show (G.length + 1) * 4 ≤ _; omega
        have HP := Lib.hid (fun (v' : Value) (w' : World) (ho : w'.ownsRow w.heap.size 27 1 v' (G.length + [u].length) (flatL encU G ++ flatL encU [u])) (hg : (w2.alloc (.cells #[.int .u32 (u : Int)] 27)).grownBy w' (Value.slice A1 G.length c1).ownBlock) (hf : v'.ownBlock = (Value.slice A1 G.length c1).ownBlock ∨ v'.ownBlock = some (w2.alloc (.cells #[.int .u32 (u : Int)] 27)).heap.size) => show ∃ A' c', v' = Value.slice A' (G.length + 1) c' ∧ OX w.heap.size (ST g st2) [u32I w.heap.size A' c' (G ++ [u]), u32I w.heap.size A2 c2 Y] w w' ∧ ApI (u32I w.heap.size A2 c2 Y) (u32I w.heap.size A' c' (G ++ [u])) from by
          obtain ⟨A', c', rfl⟩ := own_any ho
          exact ⟨A', c', rfl, x2.push2 hap.out D1 hg ho hf⟩)
        clear x2 D1 hap
        go_wp2_with (at_builtin; refine wpList_append_slg _ rfl _ _ 28 rfl w.heap.size 27 i0 _ 4 Tryz.underlying28 hi hz0 hz1 hz2 rfl (by decide) _ G.length (flatL encU G) rfl HOW.out ⟨w2.heap.size, 0, none⟩ [u] 1 1 rfl rfl encU_len HSL.out (one_flatU _) h63 h64 hba ?_; intro v3 w3 hown3 hg3 hf3; obtain ⟨A3, c3, e3, x3, ap3⟩ := HP.out v3 w3 hown3 hg3 hf3; subst e3; have X3 := Lib.hid x3; have AP3 := Lib.hid ap3; clear hown3 hg3 hf3 x3 ap3 HP HOW HSL)
        go_roundw
        case rel => exact ⟨k + 1, by omega, by go_num, st2, G ++ [u], Y, A3, c3, A2, c2, by simp, rfl, T2, X3, AP3⟩
        case measure => simp [intOf]; omega
      · rw [if_neg hd] at hg2 hy2
        have T2 := Lib.hid (show Ex16 (k + 1) st2 ∧ goneP st2 = G ∧ uidsP (expP st2) = Y ++ [u] from ⟨ht2, hg2, hy2⟩)
        have hq : ((f4 : Int) == 0) = true := beq_iff_eq.2 (by omega)
        clear ht hx hr ht2 hg2 hy2 hd
        go_wp2_with fail
        refine (C1.out _ rfl).mono ?_
        rintro e w2 ⟨rfl, x2⟩
        clear C1
        have D1 := below_al w2 (.cells #[.int .u32 (u : Int)] 27)
        have HOW := Lib.hid (own_below (x2.it (u32I w.heap.size A2 c2 Y) (by simp)) D1)
        have HSL := Lib.hid (slAt_x (w := w2.alloc (.cells #[.int .u32 (u : Int)] 27)) (b := w2.heap.size) (x := u) (by rw [cell_of_row _ _ _ _ _ _ (heap_alloc_new w2 (.cells #[.int .u32 (u : Int)] 27))]; rfl) (by simp))
        have hba : w.heap.size ≤ (w2.alloc (.cells #[.int .u32 (u : Int)] 27)).heap.size := Nat.le_trans x2.sz D1.size
        have h63 : Y.length + [u].length ≤ maxLen := by show Y.length + 1 ≤ 9223372036854775807; omega
        have h64 : (Y.length + [u].length) * 4 ≤ 140737488355328 := by show (Y.length + 1) * 4 ≤ _; omega
        have HP := Lib.hid (fun (v' : Value) (w' : World) (ho : w'.ownsRow w.heap.size 27 1 v' (Y.length + [u].length) (flatL encU Y ++ flatL encU [u])) (hg : (w2.alloc (.cells #[.int .u32 (u : Int)] 27)).grownBy w' (Value.slice A2 Y.length c2).ownBlock) (hf : v'.ownBlock = (Value.slice A2 Y.length c2).ownBlock ∨ v'.ownBlock = some (w2.alloc (.cells #[.int .u32 (u : Int)] 27)).heap.size) => show ∃ A' c', v' = Value.slice A' (Y.length + 1) c' ∧ OX w.heap.size (ST g st2) [u32I w.heap.size A1 c1 G, u32I w.heap.size A' c' (Y ++ [u])] w w' ∧ ApI (u32I w.heap.size A' c' (Y ++ [u])) (u32I w.heap.size A1 c1 G) from by
          obtain ⟨A', c', rfl⟩ := own_any ho
          have hp := (x2.sub (items' := [u32I w.heap.size A2 c2 Y, u32I w.heap.size A1 c1 G]) (by intro it h; simp at h ⊢; exact h.symm)).push2 hap.out.symm D1 hg ho hf
          exact ⟨A', c', rfl, hp.1.sub (by intro it h; simp at h ⊢; exact h.symm), hp.2.symm⟩)
        clear x2 D1 hap
        go_wp2_with (at_builtin; refine wpList_append_slg _ rfl _ _ 28 rfl w.heap.size 27 i0 _ 4 Tryz.underlying28 hi hz0 hz1 hz2 rfl (by decide) _ Y.length (flatL encU Y) rfl HOW.out ⟨w2.heap.size, 0, none⟩ [u] 1 1 rfl rfl encU_len HSL.out (one_flatU _) h63 h64 hba ?_; intro v3 w3 hown3 hg3 hf3; obtain ⟨A3, c3, e3, x3, ap3⟩ := HP.out v3 w3 hown3 hg3 hf3; subst e3; have X3 := Lib.hid x3; have AP3 := Lib.hid ap3; clear hown3 hg3 hf3 x3 ap3 HP HOW HSL)
        go_roundw
        case rel => exact ⟨k + 1, by omega, by go_num, st2, G, Y ++ [u], A1, c1, A3, c3, rfl, by simp, T2, X3, AP3⟩
        case measure => simp [intOf]; omega
    · obtain rfl : k = l.length := by omega
      have hgood := hx.out.good
      have C1 := hx.out.exp (ht.out.1.small 50000)
      rw [ht.out.2.1] at C1
      have C1 := Lib.hid C1
      have HU := Lib.hid ht.out.2.2
      have HE := Lib.hid (gone_exp st)
      have HSM := Lib.hid (small_none (none_exp ht.out.1.sub) 50000)
      have hasc : G.Pairwise (· < ·) := by rw [← ht.out.2.1]; exact gone_asc hgood.2.2.2.1
      have hpos : ∀ n ∈ G, 0 < n ∧ n ≤ 4294967295 := fun n hn => by
        rw [← ht.out.2.1] at hn
        obtain ⟨m, hm, rfl⟩ := gone_mem hn
        have := hgood.2.2.2.2 m hm
        have := hgood.2.2.1
        omega
      have SR := Lib.hid (fun W A5 c5 (x : OX w.heap.size (ST g (expP st)) [u32I w.heap.size A5 c5 G, u32I w.heap.size A1 c1 G, u32I w.heap.size A2 c2 Y] w W) => show Calls Tryz.prog 18 #[.slice A1 G.length c1] W fun e w' => ∃ A6 c6, e = .returned (.slice A6 G.length c6) ∧ OX w.heap.size (ST g (expP st)) [u32I w.heap.size A6 c6 G, u32I w.heap.size A5 c5 G, u32I w.heap.size A1 c1 G, u32I w.heap.size A2 c2 Y] w w' from by
        refine (sorted_any A1 c1 G (by omega) (fun n hn => (hpos n hn).2) W (x.rdU (c := c1) (by simp))).mono ?_
        rintro e w' ⟨O, v, rfl, ho1, ho2, _, ho3, ho4⟩
        obtain rfl : O = G := asc_unique ho1 hasc fun n => ⟨fun h => ((ho2 n).1 h).1, fun h => (ho2 n).2 ⟨h, (hpos n h).1⟩⟩
        obtain ⟨A6, c6, rfl⟩ := own_any ho3
        exact ⟨A6, c6, rfl, x.addU ho4 ho3⟩)
      clear ht hx hap hasc hpos hgood HS AP0 X0
      generalize hst : expP st = st2 at *
      go_wp2_with fail
      refine C1.out.mono ?_
      rintro e w2 ⟨A5, c5, rfl, x2⟩
      have X2 := Lib.hid x2
      clear x2 C1
      go_wp2_with fail
      refine (AL.out _).mono ?_
      rintro e w3 ⟨rfl, hb3⟩
      have S3 := Lib.hid (SR.out w3 A5 c5 (X2.out.bel hb3))
      clear hb3 X2 AL SR
      go_wp2_with fail
      refine S3.out.mono ?_
      rintro e w4 ⟨A6, c6, rfl, x4⟩
      have E4 := equalU_any A5 A6 c5 c6 G G (by omega) (by omega) w4 (x4.rdU (c := c5) (by simp)) (x4.rdU (c := c6) (by simp))
      rw [decide_eq_true rfl] at E4
      have E4 := Lib.hid E4
      have X4 := Lib.hid x4
      clear x4 S3
      go_wp2_with fail
      refine E4.out.mono ?_
      rintro e w5 ⟨rfl, hb5⟩
      have C5 := (X4.out.bel hb5).uids
      rw [HU.out] at C5
      have C5 := Lib.hid C5
      clear hb5 X4 E4
      go_wp2_with fail
      refine C5.out.mono ?_
      rintro e w6 ⟨A7, c7, rfl, x6⟩
      have E6 := equalU_any A7 A2 c7 c2 Y Y (by omega) (by omega) w6 (x6.rdU (c := c7) (by simp)) (x6.rdU (c := c2) (by simp))
      rw [decide_eq_true rfl] at E6
      have E6 := Lib.hid E6
      have X6 := Lib.hid x6
      clear x6 C5
      go_wp2_with fail
      refine E6.out.mono ?_
      rintro e w7 ⟨rfl, hb7⟩
      have C7 := (X6.out.bel hb7).exp HSM.out
      rw [HE.out] at C7
      have C7 := Lib.hid C7
      clear hb7 X6 E6
      go_wp2_with fail
      refine C7.out.mono ?_
      rintro e w8 ⟨A8, c8, rfl, x8⟩
      have HB := Lib.hid x8.be
      clear x8 C7
      go_wp2_with fail
      go_ret
      exact ⟨rfl, HB.out⟩
theorem storeExpunges_law (A : Option Addr) (c : Nat) (l : List UInt8) (hlm : l.length ≤ maxLen) (w : World) (hS : ByAt w.heap.size w A c l) :
    Calls Tryz.prog 4 #[.slice A l.length c] w fun e w' => e = .returned (.bool true) ∧ Below w.heap.size w w' := by
  unfold maxLen at hlm
  by_cases h1 : l.length ≤ 60
  · exact expunges_main A c l h1 w hS
  · have h1i : (60 : Int) < (l.length : Int) := by omega
    have AL := Lib.hid (fun W => alive16_any W)
    clear h1 hS
    generalize l.length = n1 at *
    go_enter Tryz.func4, Tryz.ntmps4
    go_wp2_with fail
    refine (AL.out _).mono ?_
    rintro e w1 ⟨rfl, hb⟩
    go_wp2_with fail
    go_ret
    exact ⟨rfl, hb⟩
end Go.Proofs.YthdbbappojkmoaaGreat
