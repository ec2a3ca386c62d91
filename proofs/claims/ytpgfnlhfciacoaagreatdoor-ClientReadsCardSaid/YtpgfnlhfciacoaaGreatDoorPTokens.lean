import Derived.Test.YtpgfnlhfciacoaaGreatDoorPRdScan
import Derived.Deep.LoopGhost
import Derived.Deep.RegionHeld3
set_option maxRecDepth 100000
set_option maxHeartbeats 4000000
open Go.Lib renaming hid → Hi
namespace Go.Proofs.YtpgfnlhfciacoaaGreatDoor
open Go.RowKit
def TkPost (T : TypeId) (l : List UInt8) (w : World) (e : Ending) (w' : World) : Prop :=
 ∃ v ts x, e = .returned (.tuple #[v, .int .i64 x]) ∧ w'.ownsRow w.heap.size T 3 v ts.length (YF encT ts) ∧ IsToks l ts x ∧ Below w.heap.size w w'
theorem own_other {w w' : World} {base r : Nat} {e : TypeId} {size n : Nat} {v : Value} {xs : List Value} (h : w.ownsRow base e size v n xs) (hg : w.grownBy w' (some r)) (hne : v.ownBlock ≠ some r) : w'.ownsRow base e size v n xs := by
 refine ⟨h.1, ?_⟩
 rcases h.2 with h1 | ⟨g, cap, cur, rfl, h2, h3, h4⟩
 · exact .inl h1
 · exact .inr ⟨g, cap, cur, rfl, h2, (hg.block g (Array.getElem?_eq_some_iff.1 h3).1 hne).trans h3, h4⟩
theorem Rd.otherB {bs c : Nat} {A : Option Addr} {l : List UInt8} {x : Int} {w w' : World} {row : Option Nat} (h : Rd bs A c l x w) (hg : w.grownBy w' row) (hr : ∀ r, row = some r → bs < r) : Rd bs A c l x w' := by
 rcases row with _ | r
 · exact h.other (r := w.heap.size + bs + 1) ⟨hg.os, hg.tape, hg.output, hg.size, fun k hk _ => hg.block k hk (fun e => by cases e)⟩ (by omega)
 · exact h.other hg (hr r rfl)
theorem slAt_oneS (w : World) (p : Addr) (s : Value) (k a : Nat) (x : List UInt8) (T : TypeId) : SlAt encT 3 ((w.setCell p s).alloc (.cells #[.int .i64 (k : Int), .string ⟨x.toArray⟩, .int .i64 (a : Int)] T)) (some ⟨w.heap.size, 0, none⟩) [⟨k, x, a⟩] := by
 have h := slAt_oneT (w.setCell p s) k a x T
 have e : (w.setCell p s).heap.size = w.heap.size := by simp [World.setCell]
 rw [e] at h
 exact h
theorem tk_round {T TT : TypeId} {base0 mb k n : Nat} {A : Option Addr} {c : Nat} {l : List UInt8} {w wr w6 : World} {ts : List Tok} {v : Value} {s : Value} {O8 : Obj} {u0 u1 u2 : Value}
 (hbase : base0 = w.heap.size + 2) (hmb : mb = w.heap.size + 1) (hO : wr.ownsRow base0 TT 3 v ts.length (YF encT ts)) (hM : wr.ownsMap Tryz.prog 3 (fnElemP w.heap.size) mb 6 rdD) (hB : Below w.heap.size w wr)
 (hg : (wr.alloc (.cells #[u0, u1, u2] T)).drew.grownBy w6 (some w.heap.size)) (hR6 : Rd w.heap.size A c l ((k + n : Nat) : Int) w6) :
 w6.heap[wr.heap.size]? = some (.cells #[u0, u1, u2] T (0, 0)) ∧
 ((w6.setCell ⟨wr.heap.size, 1, none⟩ s).alloc O8).ownsRow base0 TT 3 v ts.length (YF encT ts) ∧
 w.heap.size + 2 ≤ ((w6.setCell ⟨wr.heap.size, 1, none⟩ s).alloc O8).heap.size ∧
 (∀ w9, ((w6.setCell ⟨wr.heap.size, 1, none⟩ s).alloc O8).grownBy w9 v.ownBlock → Rd w.heap.size A c l ((k + n : Nat) : Int) w9 ∧ w9.ownsMap Tryz.prog 3 (fnElemP w.heap.size) mb 6 rdD ∧ Below w.heap.size w w9) ∧ Below w.heap.size w (w6.setCell ⟨wr.heap.size, 1, none⟩ s) := by
 have hlt := hM.lt
 have hsz : wr.heap.size + 1 ≤ w6.heap.size := by have := hg.size; simp at this; exact this
 have hal : (wr.alloc (.cells #[u0, u1, u2] T)).drew.heap[wr.heap.size]? = some (.cells #[u0, u1, u2] T (0, 0)) := YD wr _
 have h6 : w6.heap[wr.heap.size]? = some (.cells #[u0, u1, u2] T (0, 0)) := (hg.block _ (by simp) (fun e => by injection e; omega)).trans hal
 have hown : ∀ g, v.ownBlock = some g → base0 ≤ g ∧ g < wr.heap.size := fun g hv => hO.lt g hv
 have hB5 : Below wr.heap.size wr (wr.alloc (.cells #[u0, u1, u2] T)).drew := ZJ (YB _ _)
 have hO5 := ZP hO hB5
 have hO6 := own_other hO5 hg (fun e => by have := hown _ e; omega)
 have hgs := ZG w6 wr.heap.size 1 s
 have hO7 := own_other hO6 hgs (fun e => by have := hown _ e; omega)
 have hM5 : (wr.alloc (.cells #[u0, u1, u2] T)).drew.ownsMap Tryz.prog 3 (fnElemP w.heap.size) mb 6 rdD := (hM.alloc _).drew
 have hM6 := hM5.kept hg (fun e => by injection e; omega)
 have hM7 : (w6.setCell ⟨wr.heap.size, 1, none⟩ s).ownsMap Tryz.prog 3 (fnElemP w.heap.size) mb 6 rdD := hM6.kept hgs (fun e => by injection e; omega)
 have hR7 := hR6.other hgs (by omega)
 have hB6 : Below w.heap.size w w6 := (hB.trans (hB5.mono hB.size)).grown hg (Nat.le_trans hB.size hB5.size) (fun k hk => by injection hk; omega)
 have hB7 : Below w.heap.size w (w6.setCell ⟨wr.heap.size, 1, none⟩ s) := hB6.setCell (p := ⟨wr.heap.size, 1, none⟩) hB.size s
 have hs7 : (w6.setCell ⟨wr.heap.size, 1, none⟩ s).heap.size = w6.heap.size := by simp [World.setCell]
 refine ⟨h6, ZP hO7 (YB _ _), by rw [World.size_alloc, hs7]; omega, fun w9 h9 => ⟨?_, ?_, ?_⟩, hB7⟩
 · exact (hR7.grow (YB _ O8)).otherB h9 (fun r hr => by have := hown r hr; omega)
 · exact (hM7.alloc O8).kept h9 (fun e => by have := hown mb e.symm; omega)
 · exact (hB7.trans ((YB _ O8).mono hB7.size)).grown h9 (by rw [World.size_alloc, hs7]; omega) (fun k hk => by have := hown k hk; omega)
theorem tokens_any (B c : Nat) (A : Option Addr) (l : List UInt8) (hl : l.length ≤ 100000) (w : World) (henv : Env w) (hA : ByAt B w A c l) :
 Calls Tryz.prog 68 #[.slice A l.length c] w (TkPost 158 l w) := by
 obtain ⟨i0, hi, hz0, hz1, hz2⟩ := info_parts infoT
 have HE := Hi (fun w1 (hB : Below w.heap.size w w1) => henv.below hB)
 have KO := Hi (fun n W h => kindOf_any n W h)
 have HR0 := Hi (rd_new hA 0)
 have B0 := YB w (.cells #[.slice A l.length c, .int .i64 0] 154)
 have RS := Hi (readers_any w.heap.size (w.alloc (.cells #[.slice A l.length c, .int .i64 0] 154)))
 clear henv hA
 go_enter Tryz.func68, Tryz.ntmps68
 go_wp2_with fail
 refine RS.out.mono ?_
 rintro e w2 ⟨rfl, hM, hb⟩
 rw [World.size_alloc] at hM
 rw [World.size_alloc]
 have HM0 := Hi hM
 have HR2 := Hi (HR0.out.grow hb)
 have HB2 := Hi (YA B0 hb)
 clear hM hb RS HR0 B0
 go_wp2_with fail
 go_loopg [6] l.length (fun gg v wr => ∃ (k : Nat) (ts : List Tok), k ≤ l.length ∧ l.length - k ≤ gg ∧ Hid (Rd w.heap.size A c l (k : Int) wr) ∧ Hid (wr.ownsMap Tryz.prog 3 (fnElemP w.heap.size) (w.heap.size + 1) 6 rdD) ∧ Hid (TRun l 0 ts k) ∧ Hid (wr.ownsRow (w.heap.size + 2) 158 3 v ts.length (YF encT ts)) ∧ Hid (Below w.heap.size w wr))
 case atStart => exact ⟨0, [], Nat.zero_le _, by omega, HR2, HM0, .nil _, World.ownsRow_nil _ _ _ _, HB2⟩
 case round =>
  obtain ⟨k, ts, hkl, hgg, hR, hM, hT, hO, hB⟩ := hrel
  clear HR2 HM0 HB2
  have c0 := hR.out.c0
  have c1 := hR.out.c1
  have htl := (hT.out.le (Nat.zero_le _)).2
  have hml := hM.out.lt
  have hrl := hR.out.lt
  by_cases hlt : k < l.length
  · obtain ⟨b, off, rfl, hb, hc⟩ := hR.out.byte hlt
    have hn : l[k].toNat ≤ 255 := by have := l[k].toNat_lt; omega
    have hy := List.getElem?_eq_getElem hlt
    generalize l[k] = y at *
    have hy0 : (l.drop k)[0]? = some y := by rw [drop_at]; exact hy
    have K := fun W => KO.out y.toNat W hn
    by_cases hk0 : ZD y.toNat = 0
    · rw [hk0] at K
      have K : ∀ W, Calls Tryz.prog 107 #[.int .u8 (y.toNat : Int)] W fun e w' => e = .returned (.int .i64 0) ∧ W = w' := K
      have K := Hi K
      have HON := Hi (oneR_none hy0 hk0)
      clear hk0 hy hy0
      generalize y.toNat = x at *
      have HBW : ∀ W, Below wr.heap.size wr W → W.cell? ⟨w.heap.size, 1, none⟩ = some (.int .i64 (k : Int)) ∧ W.cell? ⟨b, off + k, none⟩ = some (.int .u8 (x : Int)) ∧ Below wr.heap.size wr W := fun W hW => ⟨(hW.cell (p := ⟨w.heap.size, 1, none⟩) hrl).trans c1, (hW.cell (p := ⟨b, off + k, none⟩) (Nat.lt_trans hb hrl)).trans hc, hW⟩
      have HBW := Hi HBW
      go_wp2_with fail
      go_region_held3 (fun w' => w'.cell? ⟨w.heap.size, 1, none⟩ = some (.int .i64 (k : Int)) ∧ w'.cell? ⟨b, off + k, none⟩ = some (.int .u8 (x : Int)) ∧ Below wr.heap.size wr w')
       ((refine HBW.out _ ?_; repeat (first | assumption | exact Below.refl _ _ | refine belDrawN ?_ _ | refine ZJ ?_ | refine ZY ?_ _ | refine belSet ?_ (Nat.le_refl _) _)))
       ((go_at_call 107; refine (K.out _).mono ?_; rintro e w1 ⟨rfl, rfl⟩))
      all_goals
       have LK := look_rd0 ((hM.out.alloc (.cells #[.int .i64 0, .string ⟨#[]⟩, .int .i64 (k : Int)] 158)).drew)
       go_wp2_with fail
       go_quiet (fail)
       go_wp2_with fail
       refine bodyPost_ret (v := .tuple #[.slice none 0 0, .int .i64 (k : Int)]) (by simp [results, Tryz.results68, go_sem]) rfl ?_
       exact ⟨_, [], _, rfl, World.ownsRow_nil _ _ _ _, .inr ⟨ts, k, hT.out, hlt, HON.out, rfl, rfl⟩, hB.out.trans ((belDrawN (ZJ (YB wr _)) _).mono hB.out.size)⟩
    · have hone := oneR_rest hy0 hk0
      have hkd := kindN_le y.toNat
      have RF := fun W (hW : Below wr.heap.size wr W) => rdF_any w.heap.size c (some ⟨b, off, none⟩) l k y hy hk0 (by omega) W (HE.out W (hB.out.trans (hW.mono hB.out.size))) (hR.out.grow hW)
      obtain ⟨o, ho⟩ : ∃ o, restO (l.drop k) = o := ⟨_, rfl⟩
      rw [ho] at hone RF
      have LK0 := fun (W : World) (hW : W.ownsMap Tryz.prog 3 (fnElemP w.heap.size) (w.heap.size + 1) 6 rdD) => look_rd hW (ZD y.toNat) (by omega) hkd
      have HEN := fun args W => enters_rdF (ZD y.toNat) args W
      generalize ZD y.toNat = kd at *
      generalize rdF kd = F at *
      have K := Hi K
      have RF := Hi RF
      have LK0 := Hi LK0
      have HONE := Hi hone
      have hkd1 : 1 ≤ kd := by omega
      clear hk0 hy hy0 ho hone
      generalize y.toNat = x at *
      have HBW : ∀ W, Below wr.heap.size wr W → W.cell? ⟨w.heap.size, 1, none⟩ = some (.int .i64 (k : Int)) ∧ W.cell? ⟨b, off + k, none⟩ = some (.int .u8 (x : Int)) ∧ Below wr.heap.size wr W := fun W hW => ⟨(hW.cell (p := ⟨w.heap.size, 1, none⟩) hrl).trans c1, (hW.cell (p := ⟨b, off + k, none⟩) (Nat.lt_trans hb hrl)).trans hc, hW⟩
      have HBW := Hi HBW
      cases o with
      | none =>
        go_wp2_with fail
        go_region_held3 (fun w' => w'.cell? ⟨w.heap.size, 1, none⟩ = some (.int .i64 (k : Int)) ∧ w'.cell? ⟨b, off + k, none⟩ = some (.int .u8 (x : Int)) ∧ Below wr.heap.size wr w')
         ((refine HBW.out _ ?_; repeat (first | assumption | exact Below.refl _ _ | refine belDrawN ?_ _ | refine ZJ ?_ | refine ZY ?_ _ | refine belSet ?_ (Nat.le_refl _) _)))
         ((go_at_call 107; refine (K.out _).mono ?_; rintro e w1 ⟨rfl, rfl⟩))
        all_goals
         have LK := LK0.out _ ((hM.out.alloc (.cells #[.int .i64 (kd : Int), .string ⟨#[]⟩, .int .i64 (k : Int)] 158)).drew)
         go_wp2_with fail
         refine (RF.out _ (ZJ (YB wr _))).mono ?_
         intro e w6 hp
         obtain ⟨hg, he, hR6⟩ := hp.none_
         subst he
         obtain ⟨h6, _, _, _, hB7⟩ := tk_round (n := 0) (s := .string ⟨#[]⟩) (O8 := .cells #[] 0) rfl rfl hO.out hM.out hB.out hg hR6
         have j0 := cell_of_row _ _ 0 _ _ _ h6
         have j1 := cell_of_row _ _ 1 _ _ _ h6
         have j2 := cell_of_row _ _ 2 _ _ _ h6
         have f1 := Joins.unfrozen_of_block h6 1
         have HB7 := Hi hB7
         clear hp hg hR6 h6 hB7 LK
         go_wp2_with fail
         go_quiet (fail)
         go_wp2_with fail
         refine bodyPost_ret (v := .tuple #[.slice none 0 0, .int .i64 (k : Int)]) (by simp [results, Tryz.results68, go_sem]) rfl ?_
         exact ⟨_, [], _, rfl, World.ownsRow_nil _ _ _ _, .inr ⟨ts, k, hT.out, hlt, HONE.out, rfl, rfl⟩, belDrawN HB7.out _⟩
      | some t =>
        obtain ⟨X, n⟩ := t
        have hone : oneR (l.drop k) = some (kd, X, n) := HONE.out
        obtain ⟨p1, p2, _⟩ := oneR_pos hone
        rw [List.length_drop] at p2
        have HT2 := Hi (hT.out.snoc hone)
        clear hone HONE
        go_wp2_with fail
        go_region_held3 (fun w' => w'.cell? ⟨w.heap.size, 1, none⟩ = some (.int .i64 (k : Int)) ∧ w'.cell? ⟨b, off + k, none⟩ = some (.int .u8 (x : Int)) ∧ Below wr.heap.size wr w')
         ((refine HBW.out _ ?_; repeat (first | assumption | exact Below.refl _ _ | refine belDrawN ?_ _ | refine ZJ ?_ | refine ZY ?_ _ | refine belSet ?_ (Nat.le_refl _) _)))
         ((go_at_call 107; refine (K.out _).mono ?_; rintro e w1 ⟨rfl, rfl⟩))
        all_goals
         have LK := LK0.out _ ((hM.out.alloc (.cells #[.int .i64 (kd : Int), .string ⟨#[]⟩, .int .i64 (k : Int)] 158)).drew)
         go_wp2_with fail
         refine (RF.out _ (ZJ (YB wr _))).mono ?_
         intro e w6 hp
         obtain ⟨hg, he, hR6⟩ := hp.some_
         subst he
         obtain ⟨h6, hO8, hz8, h9, _⟩ := tk_round (s := .string ⟨X.toArray⟩) (O8 := .cells #[.int .i64 (kd : Int), .string ⟨X.toArray⟩, .int .i64 (k : Int)] 158) rfl rfl hO.out hM.out hB.out hg hR6
         have j0 := cell_of_row _ _ 0 _ _ _ h6
         have j1 := cell_of_row _ _ 1 _ _ _ h6
         have j2 := cell_of_row _ _ 2 _ _ _ h6
         have f1 := Joins.unfrozen_of_block h6 1
         have HO8 := Hi hO8
         have HZ8 := Hi hz8
         have H9 := Hi h9
         clear hp hg hR6 h6 hO8 hz8 h9 LK
         go_wp2_with (at_builtin; refine YL _ rfl (.tmp 53) (.tmp 55) 102 rfl (w.heap.size + 2) 158 i0 _ 32 Tryz.underlying102 hi hz0 hz1 hz2 rfl (by decide) _ ts.length (YF encT ts) rfl HO8.out _ [⟨kd, X, k⟩] 1 rfl encT_len (slAt_oneS _ _ _ _ _ _ _) (one_flatT _) (by simp only [List.length_singleton, maxLen]; omega) (by simp only [List.length_singleton]; omega) HZ8.out ?_; intro v9 w9 hv9 hg9)
         obtain ⟨r1, r2, r3⟩ := H9.out w9 hg9
         have R1 := Hi r1
         have R2 := Hi r2
         have R3 := Hi r3
         have R4 := Hi (tk_snoc hv9)
         clear r1 r2 r3 hv9 hg9 H9
         go_wp2_with fail
         go_roundg (l.length - (k + n))
         case measure => omega
         case rel => exact ⟨k + n, ts ++ [⟨kd, X, k⟩], by omega, by omega, R1, R2, HT2, R4, R3⟩
  · obtain rfl : k = l.length := by omega
    have hB8 := hB.out.trans ((YB wr (.cells #[.int .i64 0, .string ⟨#[]⟩, .int .i64 (l.length : Int)] 158)).mono hB.out.size)
    have hO8 := Hi (ZP hO.out (YB wr (.cells #[.int .i64 0, .string ⟨#[]⟩, .int .i64 (l.length : Int)] 158)))
    have hz : w.heap.size + 2 ≤ (wr.alloc (.cells #[.int .i64 0, .string ⟨#[]⟩, .int .i64 (l.length : Int)] 158)).heap.size := by simp; omega
    go_wp2_with (at_builtin; refine YL _ rfl (.tmp 57) (.tmp 63) 102 rfl (w.heap.size + 2) 158 i0 _ 32 Tryz.underlying102 hi hz0 hz1 hz2 rfl (by decide) _ ts.length (YF encT ts) rfl hO8.out _ [⟨0, [], l.length⟩] 1 rfl encT_len (slAt_oneT _ 0 l.length [] _) (one_flatT _) (by simp only [List.length_singleton, maxLen]; omega) (by simp only [List.length_singleton]; omega) hz ?_; intro v9 w9 hv9 hg9)
    have R4 := Hi (Joins.ownsRow_le (tk_snoc hv9) (show w.heap.size ≤ w.heap.size + 2 by omega))
    have R3 := Hi (hB8.grown hg9 (Nat.le_trans (by omega) hz) (fun j hj => by have := hO.out.lt j hj; omega))
    clear hv9 hg9
    go_wp2_with fail
    refine bodyPost_ret (v := .tuple #[v9, .int .i64 (-1)]) (by simp [results, Tryz.results68, go_sem]) rfl ?_
    exact ⟨_, _, _, rfl, R4.out, .inl ⟨ts, hT.out, rfl, rfl⟩, R3.out⟩
end Go.Proofs.YtpgfnlhfciacoaaGreatDoor
