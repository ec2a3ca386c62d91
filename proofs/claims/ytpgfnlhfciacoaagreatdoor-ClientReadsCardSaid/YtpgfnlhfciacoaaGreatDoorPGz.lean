import Derived.Test.YtpgfnlhfciacoaaGreatDoorPGh
import Derived.Test.YtpgfnlhfciacoaaGreatDoorPGy
import Derived.LoopTactic
set_option maxRecDepth 100000
set_option maxHeartbeats 4000000
open Go.Lib renaming hid → Hi
namespace Go.Proofs.YtpgfnlhfciacoaaGreatDoor
open Go.RowKit
def eoI : Option Nat → Int
 | some e => (e : Int)
 | none => -1
theorem byte_ne {x y : UInt8} (h : x ≠ y) : ((x.toNat : Int) == (y.toNat : Int)) = false := by
 rw [beq_eq_false_iff_ne]
 intro e
 exact h (UInt8.toNat_inj.1 (by omega))
theorem refEnd_any (B c n : Nat) (A : Option Addr) (l : List UInt8) (hn : l.length = n) (hl : n ≤ 1000000) (a : Nat) (ha : a ≤ n) (w : World) (hA : ByAt B w A c l) :
 Calls Tryz.prog 91 #[.slice A n c, .int .i64 (a : Int)] w fun e w' => e = .returned (.int .i64 (eoI (ZK l a))) ∧ w = w' := by
 have HA := Hi hA
 have HN := Hi hn
 clear hA hn
 go_enter Tryz.func91, Tryz.ntmps91
 go_wp2_with fail
 go_loop [5] (fun i => ∃ k : Nat, a ≤ k ∧ k ≤ n ∧ i = .int .i64 (k : Int) ∧ Hid (∀ j, a ≤ j → j < k → ¬ Mark l j)) (fun i => n - (intOf i).toNat)
 case atStart => exact ⟨a, Nat.le_refl _, ha, rfl, fun j h1 h2 => absurd h1 (by omega)⟩
 case round =>
  obtain ⟨k, hak, hk, rfl, hJ⟩ := hrel
  by_cases hlt : k + 1 < n
  · have hl1 : k < l.length := by rw [HN.out]; omega
    have hl2 : k + 1 < l.length := by rw [HN.out]; omega
    obtain ⟨b, off, rfl, _, _, hc⟩ := HA.out.cell (j := k) hl1
    obtain ⟨b2, off2, he, _, _, hc2⟩ := HA.out.cell (j := k + 1) hl2
    simp only [Option.some.injEq, Addr.mk.injEq, and_true] at he
    obtain ⟨rfl, rfl⟩ := he
    by_cases h13 : l[k] = 13
    · by_cases h10 : l[k + 1] = 10
      · have HE := Hi (show ZK l a = some k from endOf_some.2 ⟨hak, ⟨by rw [List.getElem?_eq_getElem hl1, h13], by rw [List.getElem?_eq_getElem hl2, h10]⟩, hJ.out⟩)
        rw [h13] at hc
        rw [h10] at hc2
        have hc' : w.cell? ⟨b, off + k, none⟩ = some (.int .u8 13) := hc
        have hc2' : w.cell? ⟨b, off + (k + 1), none⟩ = some (.int .u8 10) := hc2
        clear hJ h13 h10 hc hc2 hl1 hl2
        go_wp2_with fail
        go_ret
        exact ⟨by rw [HE.out]; rfl, rfl⟩
      · have HJ := Hi (show ∀ j, a ≤ j → j < k + 1 → ¬ Mark l j from fun j h1 h2 hm => by
         rcases Nat.eq_or_lt_of_le (Nat.le_of_lt_succ h2) with rfl | h3
         · have := hm.2
           rw [List.getElem?_eq_getElem hl2] at this
           exact h10 (Option.some.inj this)
         · exact hJ.out j h1 h3 hm)
        have e1 := byte_ne h10
        rw [h13] at hc
        have hc' : w.cell? ⟨b, off + k, none⟩ = some (.int .u8 13) := hc
        have e1' : ((l[k + 1].toNat : Int) == 10) = false := e1
        clear hJ h13 h10 hc e1 hl1
        generalize l[k + 1].toNat = y at *
        go_wp2_with fail
        go_round
        case rel => exact ⟨k + 1, by omega, by omega, by go_num, HJ.out⟩
        case measure => simp [intOf]; omega
    · have HJ := Hi (show ∀ j, a ≤ j → j < k + 1 → ¬ Mark l j from fun j h1 h2 hm => by
       rcases Nat.eq_or_lt_of_le (Nat.le_of_lt_succ h2) with rfl | h3
       · have := hm.1
         rw [List.getElem?_eq_getElem hl1] at this
         exact h13 (Option.some.inj this)
       · exact hJ.out j h1 h3 hm)
      have e1' : ((l[k].toNat : Int) == 13) = false := byte_ne h13
      clear hJ h13 hc2 hl2
      generalize l[k].toNat = y at *
      go_wp2_with fail
      go_round
      case rel => exact ⟨k + 1, by omega, by omega, by go_num, HJ.out⟩
      case measure => simp [intOf]; omega
  · have HE := Hi (show ZK l a = none from endOf_none.2 fun j h1 hm => by
     have := hm.lt
     rw [HN.out] at this
     exact hJ.out j h1 (by omega) hm)
    clear hJ
    go_wp2_with fail
    go_ret
    exact ⟨by rw [HE.out]; rfl, rfl⟩
theorem infoF5 : (Tryz.prog.info? 59).map (fun i => (i.zero, i.size, i.bytes)) = some (some (.agg #[.int .i64 0, .slice none 0 0]), 2, 32) := by kernel_rfl
def RcPost (l : List UInt8) (w : World) (e' : Ending) (w' : World) : Prop :=
 ∃ v vs fs, ∃ x : Int, e' = .returned (.tuple #[v, .int .i64 x]) ∧ w'.ownsRow w.heap.size 59 2 v fs.length (YF enc2 vs) ∧ QK (fun _ => True) w' vs fs ∧ Below w.heap.size w w' ∧
  ((∃ m : Nat, x = (m : Int) ∧ m ≤ l.length ∧ 2 ≤ m ∧ Runs l 0 fs (l.drop m) 0) ∨ (x = -1 ∧ ∃ k, Runs l 0 fs l k ∧ Done l k))
theorem cm_add {P : Nat → Prop} {T : TypeId} (hT : T ≠ 5) {base : Nat} {w wr W w2 : World} {v v' dv : Value} {vs : List (Int × Value)} {fs : List Fr} {f : Fr} {x : Int} (hx : x = (f.kind : Int)) (hO : wr.ownsRow base T 2 v fs.length (YF enc2 vs)) (hF : QK P wr vs fs) (hB : Below base w wr) (hz : base ≤ wr.heap.size) (hW : Below wr.heap.size wr W) (hd : FrD P W dv f.data)
 (hO2 : w2.ownsRow base T 2 v' (fs.length + [(x, dv)].length) (YF enc2 vs ++ YF enc2 [(x, dv)])) (hg : W.grownBy w2 v.ownBlock) :
 w2.ownsRow base T 2 v' (fs ++ [f]).length (YF enc2 (vs ++ [((f.kind : Int), dv)])) ∧ QK P w2 (vs ++ [((f.kind : Int), dv)]) (fs ++ [f]) ∧ Below base w w2 := by
 subst hx
 have hk := keeps_row (T := 5) (ZP hO hW) hT hg
 refine ⟨?_, ((hF.keeps (keeps_below hW)).append (.one hd)).keeps hk, (hB.trans (hW.mono hz)).grown hg (Nat.le_trans hz hW.size) (fun k hk => (hO.lt k hk).1)⟩
 rw [ZR, List.length_append]
 exact hO2
theorem frs_count {l : List UInt8} {k : Nat} {fs : List Fr} (h : Runs l 0 fs l k) (hl : l.length ≤ 1000000) : fs.length ≤ 500000 := by
 have := h.len.1
 omega
theorem dup_run (w : World) (ty : TypeId) (B : Nat) (A : Option Addr) (c n : Nat) (l : List UInt8) (hA : ByAt B w A c l) (hn : l.length = n) (hl : n ≤ 1000000) :
 ∃ A' c' w' g', (Builtin.append_ #[24, 24] ty #[.slice (some ⟨w.heap.size, 0, none⟩) 0 0, .slice A n c]).run Tryz.prog (w.alloc (.cells #[] 5)) = .ok (.slice A' n c') w' ∧ w.heap.size ≤ g' ∧ BRow g' w' A' c' l ∧ Below w.heap.size w w' := by
 obtain ⟨A', c', w', g', hr, hg, hb, hgr⟩ := append_brow (w.alloc (.cells #[] 5)) ty w.heap.size _ 0 0 [] (brow_empty w) rfl w.heap.size A c n l (hA.here.below (YB w _)) hn (by omega)
 rw [Nat.zero_add] at hr
 refine ⟨A', c', w', g', hr, ?_, by simpa using hb, (YB w _).grown hgr (by simp) (fun k hk => by injection hk with hk; omega)⟩
 rcases hg with rfl | hg
 · exact Nat.le_refl _
 · simp at hg; omega
theorem refCommand_any (B c n : Nat) (A : Option Addr) (l : List UInt8) (hn : l.length = n) (hl : n ≤ 1000000) (w : World) (hA : ByAt B w A c l) :
 Calls Tryz.prog 57 #[.slice A n c] w (RcPost l w) := by
 have hle := hA.le
 obtain ⟨i0, hi, hz0, hz1, hz2⟩ := info_parts infoF5
 have HA := Hi hA.here
 have HN := Hi hn
 have hse := fun x lo hi mx W => YY x lo hi mx W
 clear hA hn
 go_enter Tryz.func57, Tryz.ntmps57
 go_wp2_with fail
 go_loopw [4, 5] (fun v i wr => ∃ (k : Nat) (vs : List (Int × Value)) (fs : List Fr), k ≤ 1100000 ∧ i = .int .i64 (k : Int) ∧ fs.length ≤ 500000 ∧ Hid (Runs l 0 fs l k) ∧ Hid (wr.ownsRow w.heap.size 59 2 v fs.length (YF enc2 vs)) ∧ Hid (QK (fun _ => True) wr vs fs) ∧ Hid (Below w.heap.size w wr)) (fun _ i _ => 2000000 - (intOf i).toNat)
 case atStart => exact ⟨0, [], [], by omega, rfl, by simp, .nil _ _, World.ownsRow_nil _ _ _ _, .nil, Below.refl _ _⟩
 case round =>
  obtain ⟨k, vs, fs, hk0, rfl, hfl, hR, hO, hF, hB⟩ := hrel
  obtain ⟨Av, cv, hv⟩ := YV hO.out
  subst hv
  by_cases hk : k ≤ n
  · have EN := Hi (fun W (hW : Below w.heap.size w W) => refEnd_any _ c n A l HN.out hl k hk W (HA.out.below hW))
    cases he : ZK l k with
    | none =>
      have HD := Hi (show Done l k from he)
      rw [he] at EN
      clear he
      go_wp2_with fail
      refine (EN.out _ hB.out).mono ?_
      rintro e' w1 ⟨rfl, rfl⟩
      clear EN
      unfold eoI
      go_wp2_with fail
      go_ret2
      exact ⟨_, vs, fs, -1, rfl, hO.out, hF.out, hB.out, .inr ⟨rfl, k, hR.out, HD.out⟩⟩
    | some e =>
      have hlt := endOf_lt he
      have hen : e ≤ 1000000 := by have := HN.out; omega
      have hle2 : e ≤ n := by rw [← HN.out]; omega
      have hle3 : e + 2 ≤ n := by rw [← HN.out]; omega
      have EN : ∀ W, Below w.heap.size w W → Calls Tryz.prog 91 #[.slice A n c, .int .i64 (k : Int)] W fun e' w' => e' = .returned (.int .i64 (e : Int)) ∧ W = w' := fun W hW => by
       have := EN.out W hW
       rw [he] at this
       exact this
      have EN := Hi EN
      have hsl := fun W => slice_lh A n c k e hlt.1 (by have := HN.out; omega) W
      have hlen : ((l.take e).drop k).length = e - k := cut_len (by rw [HN.out]; exact hle2)
      have BL := Hi (fun (W : World) (hW : Below w.heap.size w W) => (HA.out.below hW).cut hlt.1 (by rw [HN.out]; exact hle2))
      have HE := Hi he
      have hwz := hB.out.size
      by_cases hlong : 8192 < e - k
      · have hsl2 := fun W => slice_h (offA A c k) (e - k) (c - k) 8192 (by omega) W
        have hsl3 : ∀ W, (Instr.slice 24 (.slice (offA A c k) (e - k) (c - k)) none (some (.int .i64 8192)) none).run Tryz.prog W = .ok (.slice (offA A c k) 8192 (c - k)) W := hsl2
        have ht : decide (8192 < e - k) = true := by simpa using hlong
        have ht2 : decide ((8192 : Int) < ((e - k : Nat) : Int)) = true := by simp; omega
        have hdl : ((l.take e).drop k).take 8192 = (l.drop k).take 8192 := by rw [List.drop_take, List.take_take, Nat.min_eq_left (by omega)]
        have HST := Hi (stepF_long he hlong)
        obtain ⟨A', c', w1, g', hr, hg', hb', hbl⟩ := dup_run wr 24 _ (offA A c k) (c - k) 8192 ((l.drop k).take 8192) (hdl ▸ (BL.out wr hB.out).take (by rw [hlen]; omega)) (by rw [← hdl, List.length_take, hlen]; omega) (by omega)
        have HR := Hi hr
        have hb1 := YA hbl (YB w1 (.cells #[.int .i64 3, .slice A' 8192 c'] 59))
        have HD := Hi (show FrD (fun _ => True) (w1.alloc (.cells #[.int .i64 3, .slice A' 8192 c'] 59)) (.slice A' 8192 c') ((l.drop k).take 8192) from ⟨A', c', g', by rw [List.length_take, List.length_drop, Nat.min_eq_left (by omega)], hb'.grow (YB _ _), trivial⟩)
        have HO1 := Hi (ZP hO.out hb1)
        have HB1 := Hi hb1
        have hzz : w.heap.size ≤ (w1.alloc (.cells #[.int .i64 3, .slice A' 8192 c'] 59)).heap.size := Nat.le_trans hwz hb1.size
        clear hr hg' hb' hbl hb1 hdl hlen BL he hlong
        go_wp2_with fail
        refine (EN.out _ hB.out).mono ?_
        rintro e' w9 ⟨rfl, rfl⟩
        clear EN
        go_wp2_with (first
         | (at_builtin; refine Lib.wpList_append_run_sl _ rfl (.tmp 28) (.tmp 30) 24 rfl _ _ rfl rfl HR.out ?_)
         | (at_builtin; refine YL _ rfl (.tmp 27) (.tmp 33) 55 rfl w.heap.size 59 i0 _ 32 Tryz.underlying55 hi hz0 hz1 hz2 rfl (by decide) _ fs.length (YF enc2 vs) rfl HO1.out _ [((3 : Int), Value.slice A' 8192 c')] 1 rfl enc2_len (slAt_one2 _ _ _ _) (by intro u hu; simp [YF, enc2] at hu; rcases hu with rfl | rfl <;> rfl) (by simp only [List.length_singleton, maxLen]; omega) (by simp only [List.length_singleton]; omega) hzz ?_; intro v2 w2 hv2 hg2))
        obtain ⟨q1, q2, q3⟩ := cm_add (by decide) (f := ⟨3, (l.drop k).take 8192⟩) rfl hO.out hF.out hB.out hwz HB1.out HD.out hv2 hg2
        have Q1 := Hi q1
        have Q2 := Hi q2
        have Q3 := Hi q3
        clear q1 q2 q3 hv2 hg2
        go_wp2_with fail
        go_ret2
        exact ⟨_, _, _, _, rfl, Q1.out, Q2.out, Q3.out, .inl ⟨e + 2, by omega, by rw [HN.out]; omega, by omega, hR.out.snoc HST.out⟩⟩
      · have ht : decide (8192 < e - k) = false := by simpa using hlong
        have ht2 : decide ((8192 : Int) < ((e - k : Nat) : Int)) = false := by simp; omega
        have AN : Calls Tryz.prog 92 #[.slice (offA A c k) (e - k) (c - k)] wr fun e' w' => e' = .returned (.tuple #[.int .i64 (((annOf ((l.take e).drop k)).getD 0 : Nat) : Int), .bool (annOf ((l.take e).drop k)).isSome]) ∧ wr = w' := by
         refine (refAnnounced_any w.heap.size (c - k) (e - k) (offA A c k) ((l.take e).drop k) hlen (by omega) wr (BL.out wr hB.out)).mono ?_
         rintro e' w' ⟨⟨o, h1, rfl⟩, rfl⟩
         rw [isAnn_eq h1 (isAnn_of _)]
         exact ⟨rfl, rfl⟩
        cases ho : annOf ((l.take e).drop k) with
        | none =>
          rw [ho] at AN
          have AN := Hi AN
          have hsl2 := fun W => slice_h A n c e (by omega) W
          have HST := Hi (stepF_command he hlong ho)
          obtain ⟨A', c', w1, g', hr, hg', hb', hbl⟩ := dup_run wr 24 _ A c e (l.take e) ((HA.out.below hB.out).take (by rw [HN.out]; exact hle2)) (by rw [List.length_take, HN.out]; omega) (by omega)
          have HR := Hi hr
          have hb1 := YA hbl (YB w1 (.cells #[.int .i64 1, .slice A' e c'] 59))
          have HD := Hi (show FrD (fun _ => True) (w1.alloc (.cells #[.int .i64 1, .slice A' e c'] 59)) (.slice A' e c') (l.take e) from ⟨A', c', g', by rw [List.length_take, HN.out, Nat.min_eq_left hle2], hb'.grow (YB _ _), trivial⟩)
          have HO1 := Hi (ZP hO.out hb1)
          have HB1 := Hi hb1
          have hzz : w.heap.size ≤ (w1.alloc (.cells #[.int .i64 1, .slice A' e c'] 59)).heap.size := Nat.le_trans hwz hb1.size
          clear hr hg' hb' hbl hb1 hlen BL he ho
          go_wp2_with fail
          refine (EN.out _ hB.out).mono ?_
          rintro e' w9 ⟨rfl, rfl⟩
          clear EN
          go_wp2_with fail
          refine AN.out.mono ?_
          rintro e' w9 ⟨rfl, rfl⟩
          clear AN
          go_wp2_with (first
           | (at_builtin; refine Lib.wpList_append_run_sl _ rfl (.tmp 45) (.tmp 48) 24 rfl _ _ rfl rfl HR.out ?_)
           | (at_builtin; refine YL _ rfl (.tmp 44) (.tmp 51) 55 rfl w.heap.size 59 i0 _ 32 Tryz.underlying55 hi hz0 hz1 hz2 rfl (by decide) _ fs.length (YF enc2 vs) rfl HO1.out _ [((1 : Int), Value.slice A' e c')] 1 rfl enc2_len (slAt_one2 _ _ _ _) (by intro u hu; simp [YF, enc2] at hu; rcases hu with rfl | rfl <;> rfl) (by simp only [List.length_singleton, maxLen]; omega) (by simp only [List.length_singleton]; omega) hzz ?_; intro v2 w2 hv2 hg2))
          obtain ⟨q1, q2, q3⟩ := cm_add (by decide) (f := ⟨1, l.take e⟩) rfl hO.out hF.out hB.out hwz HB1.out HD.out hv2 hg2
          have Q1 := Hi q1
          have Q2 := Hi q2
          have Q3 := Hi q3
          clear q1 q2 q3 hv2 hg2
          go_wp2_with fail
          go_ret2
          exact ⟨_, _, _, _, rfl, Q1.out, Q2.out, Q3.out, .inl ⟨e + 2, by omega, by rw [HN.out]; omega, by omega, hR.out.snoc HST.out⟩⟩
        | some x =>
          have hx4 := annOf_le ho
          rw [ho] at AN
          have AN : Calls Tryz.prog 92 #[.slice (offA A c k) (e - k) (c - k)] wr fun e' w' => e' = .returned (.tuple #[.int .i64 (x : Int), .bool true]) ∧ wr = w' := AN
          have AN := Hi AN
          by_cases hx : 65536 < x
          · have hxt : decide ((65536 : Int) < (x : Int)) = true := by simp; omega
            have hsl2 := fun W => slice_h A n c e (by omega) W
            have HST := Hi (stepF_big he hlong ho hx)
            obtain ⟨A', c', w1, g', hr, hg', hb', hbl⟩ := dup_run wr 24 _ A c e (l.take e) ((HA.out.below hB.out).take (by rw [HN.out]; exact hle2)) (by rw [List.length_take, HN.out]; omega) (by omega)
            have HR := Hi hr
            have hb1 := YA hbl (YB w1 (.cells #[.int .i64 4, .slice A' e c'] 59))
            have HD := Hi (show FrD (fun _ => True) (w1.alloc (.cells #[.int .i64 4, .slice A' e c'] 59)) (.slice A' e c') (l.take e) from ⟨A', c', g', by rw [List.length_take, HN.out, Nat.min_eq_left hle2], hb'.grow (YB _ _), trivial⟩)
            have HO1 := Hi (ZP hO.out hb1)
            have HB1 := Hi hb1
            have hzz : w.heap.size ≤ (w1.alloc (.cells #[.int .i64 4, .slice A' e c'] 59)).heap.size := Nat.le_trans hwz hb1.size
            clear hr hg' hb' hbl hb1 hlen BL he ho
            go_wp2_with fail
            refine (EN.out _ hB.out).mono ?_
            rintro e' w9 ⟨rfl, rfl⟩
            clear EN
            go_wp2_with fail
            refine AN.out.mono ?_
            rintro e' w9 ⟨rfl, rfl⟩
            clear AN
            go_wp2_with (first
             | (at_builtin; refine Lib.wpList_append_run_sl _ rfl (.tmp 58) (.tmp 61) 24 rfl _ _ rfl rfl HR.out ?_)
             | (at_builtin; refine YL _ rfl (.tmp 57) (.tmp 64) 55 rfl w.heap.size 59 i0 _ 32 Tryz.underlying55 hi hz0 hz1 hz2 rfl (by decide) _ fs.length (YF enc2 vs) rfl HO1.out _ [((4 : Int), Value.slice A' e c')] 1 rfl enc2_len (slAt_one2 _ _ _ _) (by intro u hu; simp [YF, enc2] at hu; rcases hu with rfl | rfl <;> rfl) (by simp only [List.length_singleton, maxLen]; omega) (by simp only [List.length_singleton]; omega) hzz ?_; intro v2 w2 hv2 hg2))
            obtain ⟨q1, q2, q3⟩ := cm_add (by decide) (f := ⟨4, l.take e⟩) rfl hO.out hF.out hB.out hwz HB1.out HD.out hv2 hg2
            have Q1 := Hi q1
            have Q2 := Hi q2
            have Q3 := Hi q3
            clear q1 q2 q3 hv2 hg2
            go_wp2_with fail
            go_ret2
            exact ⟨_, _, _, _, rfl, Q1.out, Q2.out, Q3.out, .inl ⟨e + 2, by omega, by rw [HN.out]; omega, by omega, hR.out.snoc HST.out⟩⟩
          · have hxt : decide ((65536 : Int) < (x : Int)) = false := by simp; omega
            have HST := Hi (stepF_ready he hlong ho hx)
            have hb1 := YB wr (.cells #[.int .i64 2, .slice none 0 0] 59)
            have HD := Hi (show FrD (fun _ => True) (wr.alloc (.cells #[.int .i64 2, .slice none 0 0] 59)) (.slice none 0 0) [] from ⟨none, 0, 0, rfl, BRow.nil _ _, trivial⟩)
            have HO1 := Hi (ZP hO.out hb1)
            have HB1 := Hi hb1
            have hzz : w.heap.size ≤ (wr.alloc (.cells #[.int .i64 2, .slice none 0 0] 59)).heap.size := Nat.le_trans hwz hb1.size
            clear hb1 hlen BL he ho
            go_wp2_with fail
            refine (EN.out _ hB.out).mono ?_
            rintro e' w9 ⟨rfl, rfl⟩
            clear EN
            go_wp2_with fail
            refine AN.out.mono ?_
            rintro e' w9 ⟨rfl, rfl⟩
            clear AN
            go_wp2_with (at_builtin; refine YL _ rfl (.tmp 68) (.tmp 70) 55 rfl w.heap.size 59 i0 _ 32 Tryz.underlying55 hi hz0 hz1 hz2 rfl (by decide) _ fs.length (YF enc2 vs) rfl HO1.out _ [((2 : Int), Value.slice none 0 0)] 1 rfl enc2_len (slAt_one2 _ _ _ _) (by intro u hu; simp [YF, enc2] at hu; rcases hu with rfl | rfl <;> rfl) (by simp only [List.length_singleton, maxLen]; omega) (by simp only [List.length_singleton]; omega) hzz ?_; intro v2 w2 hv2 hg2)
            obtain ⟨q1, q2, q3⟩ := cm_add (by decide) (f := ⟨2, []⟩) rfl hO.out hF.out hB.out hwz HB1.out HD.out hv2 hg2
            have hR2 := hR.out.snoc HST.out
            have hc := frs_count hR2 (by rw [HN.out]; exact hl)
            have Q0 := Hi hR2
            have Q1 := Hi q1
            have Q2 := Hi q2
            have Q3 := Hi q3
            have Q4 := Hi hc
            clear q1 q2 q3 hv2 hg2 hR2 hc
            go_wp2_with fail
            go_roundw
            case rel => exact ⟨e + 2 + x, _, _, by omega, by go_num, Q4.out, Q0, Q1, Q2, Q3⟩
            case measure => simp [intOf]; omega
  · have HD := Hi (show Done l k from endOf_past (by rw [HN.out]; omega))
    go_wp2_with fail
    go_ret2
    exact ⟨_, vs, fs, -1, rfl, hO.out, hF.out, hB.out, .inr ⟨rfl, k, hR.out, HD.out⟩⟩
def lenV : Value → Nat
 | .slice _ n _ => n
 | _ => 0
theorem rs_add {P : Nat → Prop} {T : TypeId} (hT : T ≠ 5) {base : Nat} {w wr W w2 : World} {v v' : Value} {vs us : List (Int × Value)} {fs gs : List Fr} (hO : wr.ownsRow base T 2 v fs.length (YF enc2 vs)) (hF : QK P wr vs fs) (hB : Below base w wr) (hz : base ≤ wr.heap.size) (hW : Below wr.heap.size wr W) (hd : QK P W us gs) (hl : us.length = gs.length)
 (hO2 : w2.ownsRow base T 2 v' (fs.length + us.length) (YF enc2 vs ++ YF enc2 us)) (hg : W.grownBy w2 v.ownBlock) :
 w2.ownsRow base T 2 v' (fs ++ gs).length (YF enc2 (vs ++ us)) ∧ QK P w2 (vs ++ us) (fs ++ gs) ∧ Below base w w2 := by
 have hk := keeps_row (T := 5) (ZP hO hW) hT hg
 refine ⟨?_, ((hF.keeps (keeps_below hW)).append hd).keeps hk, (hB.trans (hW.mono hz)).grown hg (Nat.le_trans hz hW.size) (fun k hk => (hO.lt k hk).1)⟩
 rw [ZR, List.length_append, ← hl]
 exact hO2
theorem ByAt.again {w w1 w2 : World} {A : Option Addr} {c : Nat} {l : List UInt8} (h : ByAt w.heap.size w1 A c l) (h1 : Below w.heap.size w w1) (h2 : Below w.heap.size w w2) : ByAt w.heap.size w2 A c l := by
 refine ⟨h.le, ?_⟩
 rcases h.lies with h0 | ⟨b, off, hA, hlt, hw, hc⟩
 · exact .inl h0
 · exact .inr ⟨b, off, hA, hlt, Nat.lt_of_lt_of_le hlt h2.size, fun j hj => (h2.cell (p := ⟨b, off + j, none⟩) hlt).trans ((h1.cell (p := ⟨b, off + j, none⟩) hlt).symm.trans (hc j hj))⟩
theorem refSplit_any (B c n : Nat) (A : Option Addr) (l : List UInt8) (hn : l.length = n) (hl : n ≤ 1000000) (w : World) (hA : ByAt B w A c l) :
 Calls Tryz.prog 29 #[.slice A n c] w (RsPost 59 l w) := by
 obtain ⟨i0, hi, hz0, hz1, hz2⟩ := info_parts infoF5
 have HA := Hi hA.here
 have HN := Hi hn
 have hse := fun x lo hi mx W => YY x lo hi mx W
 clear hA hn
 go_enter Tryz.func29, Tryz.ntmps29
 go_wp2_with fail
 go_loopw [0, 4] (fun b v wr => ∃ (A' : Option Addr) (c' m : Nat) (R : List UInt8) (vs : List (Int × Value)) (fs : List Fr), b = .slice A' m c' ∧ Hid (R.length = m) ∧ m ≤ n ∧ Hid (ByAt w.heap.size wr A' c' R) ∧ Hid (Runs l 0 fs R 0) ∧ Hid (wr.ownsRow w.heap.size 59 2 v fs.length (YF enc2 vs)) ∧ Hid (QK (fun _ => True) wr vs fs) ∧ Hid (Below w.heap.size w wr)) (fun b _ _ => lenV b)
 case atStart => exact ⟨A, c, n, l, [], [], rfl, HN, Nat.le_refl _, HA, .nil _ _, World.ownsRow_nil _ _ _ _, .nil, Below.refl _ _⟩
 case round =>
  obtain ⟨A', c', m, R, vs, fs, rfl, hRm, hmn, hBy, hR, hO, hF, hB⟩ := hrel
  have CM := Hi (refCommand_any w.heap.size c' m A' R hRm.out (by omega) wr hBy.out)
  obtain ⟨Av, cv, hv⟩ := YV hO.out
  subst hv
  have hwz := hB.out.size
  go_wp2_with fail
  refine CM.out.mono ?_
  rintro e' w1 ⟨v2, vs2, fs2, x, rfl, ho2, hf2, hb2, hx⟩
  obtain ⟨Av2, cv2, hv2⟩ := YV ho2
  subst hv2
  have hl2 := hf2.len
  have HO1 := Hi (ZP hO.out hb2)
  have HS2 := Hi (SlAt.of_own enc2_len (hl2.symm ▸ ho2 : w1.ownsRow wr.heap.size 59 2 (.slice Av2 fs2.length cv2) vs2.length (YF enc2 vs2)))
  have HL2 := Hi hl2
  have hzz : w.heap.size ≤ w1.heap.size := Nat.le_trans hwz hb2.size
  have HR2 : ∃ k2, Runs R 0 fs2 (if x = -1 then R else R.drop x.toNat) k2 := by
   rcases hx with ⟨q, rfl, _, _, h⟩ | ⟨rfl, k2, h, _⟩
   · rw [if_neg (by omega)]
     exact ⟨0, h⟩
   · exact ⟨k2, by simpa using h⟩
  obtain ⟨k2, HR2⟩ := HR2
  have hc2 := frs_count2 (hR.out.trans HR2) (by rw [HN.out]; exact hl)
  rw [List.length_append] at hc2
  have hc3 : vs2.length ≤ 500000 := by omega
  have HF2 := Hi hf2
  have HB2 := Hi hb2
  have hc1 : fs.length ≤ 500000 := by omega
  have hcs : fs.length + vs2.length ≤ 500000 := by omega
  rw [← hl2]
  clear ho2 hf2 hb2 hl2 CM HR2 hc2
  rcases hx with ⟨q, rfl, hq1, hq2, hR2⟩ | ⟨rfl, k2, hR2, hD2⟩
  · have HRun := Hi (hR.out.trans hR2)
    have hq : q ≤ m := by rw [← hRm.out]; exact hq1
    have hsl := fun W => slice_l A' m c' q hq W
    have hf : decide ((q : Int) < 0) = false := by simp
    have HLq := Hi (show (R.drop q).length = m - q by rw [List.length_drop, hRm.out])
    have HQ1 := Hi hq1
    clear hR2 hq1
    go_wp2_with (at_builtin; refine YL _ rfl (.tmp 12) (.tmp 13) 55 rfl w.heap.size 59 i0 _ 32 Tryz.underlying55 hi hz0 hz1 hz2 rfl (by decide) _ fs.length (YF enc2 vs) rfl HO1.out Av2 vs2 cv2 rfl enc2_len HS2.out (one_flat2 HF2.out) (by simp only [maxLen]; omega) (by omega) hzz ?_; intro v3 w3 hv3 hg3)
    obtain ⟨q1, q2, q3⟩ := rs_add (by decide) hO.out hF.out hB.out hwz HB2.out HF2.out HL2.out hv3 hg3
    have HBq := Hi ((hBy.out.again hB.out q3).drop (lo := q) HQ1.out)
    have Q1 := Hi q1
    have Q2 := Hi q2
    have Q3 := Hi q3
    clear q1 q2 q3 hv3 hg3
    go_wp2_with fail
    go_roundw
    case rel => exact ⟨_, _, m - q, R.drop q, _, _, rfl, HLq, by omega, HBq, HRun, Q1, Q2, Q3⟩
    case measure => simp [lenV]; omega
  · have HRun := Hi (hR.out.trans hR2)
    have HD2 := Hi hD2
    clear hR2 hD2
    go_wp2_with (at_builtin; refine YL _ rfl (.tmp 12) (.tmp 13) 55 rfl w.heap.size 59 i0 _ 32 Tryz.underlying55 hi hz0 hz1 hz2 rfl (by decide) _ fs.length (YF enc2 vs) rfl HO1.out Av2 vs2 cv2 rfl enc2_len HS2.out (one_flat2 HF2.out) (by simp only [maxLen]; omega) (by omega) hzz ?_; intro v3 w3 hv3 hg3)
    obtain ⟨q1, q2, q3⟩ := rs_add (by decide) hO.out hF.out hB.out hwz HB2.out HF2.out HL2.out hv3 hg3
    have Q1 := Hi q1
    have Q2 := Hi q2
    have Q3 := Hi q3
    clear q1 q2 q3 hv3 hg3
    go_wp2_with fail
    go_ret2
    exact ⟨_, _, _, R, k2, by rw [hRm.out]; rfl, Q1.out, Q2.out, Q3.out, HRun.out, HD2.out⟩
end Go.Proofs.YtpgfnlhfciacoaaGreatDoor
