import Derived.Test.YtpgfnlhfciacoaaGreatDoorPGc
import Derived.Deep.RegionWith
set_option maxRecDepth 100000
set_option maxHeartbeats 4000000
open Go.Lib renaming hid → Hi
namespace Go.Proofs.YtpgfnlhfciacoaaGreatDoor
open Go.RowKit
theorem take_t (bs c : Nat) (A : Option Addr) (l : List UInt8) (k n : Nat) (hn : k + n ≤ l.length) (hl : l.length ≤ 1000000000) (w : World) (h : Cur bs A c l (k : Int) w) :
 Calls Tryz.prog 219 #[.pointer (some ⟨bs, 0, none⟩), .int .i64 (n : Int)] w fun e w' => e = .returned (.tuple #[.slice (offA A c k) n (c - k), .bool true]) ∧ Hid (Cur bs A c l ((k : Int) + (n : Int)) w') ∧ Below bs w w' := by
 have R := Hi (rest_in bs c A l k (by omega) hl w h)
 have hle := h.lies.le
 have HH := Hi h
 have hbs := h.lt
 have hsl := fun W => slice_h (offA A c k) (l.length - k) (c - k) n (by omega) W
 have hse := fun x lo hi mx W => YY x lo hi mx W
 have e1 : decide (l.length - k < n) = false := by simp; omega
 clear h
 go_enter Tryz.func219, Tryz.ntmps219
 go_wp2_with fail
 refine R.out.mono ?_
 rintro e w1 ⟨rfl, hb⟩
 have H1 := Hi (HH.out.grow hb)
 have c1 := H1.out.c1
 have f1 := Joins.unfrozen_of_block H1.out.blk 1
 have HS := Hi (H1.out.set ((k : Int) + (n : Int)))
 have HB := Hi ((hb.mono (Nat.le_of_lt hbs)).setCell (p := ⟨bs, 1, none⟩) (Nat.le_refl _) (.int .i64 ((k : Int) + (n : Int))))
 clear R HH hb H1
 go_wp2_with fail
 go_ret2
 exact ⟨rfl, HS.out, HB.out⟩
theorem take_f (bs c : Nat) (A : Option Addr) (l : List UInt8) (k n : Nat) (hk : k ≤ l.length) (hn : l.length < k + n) (hl : l.length ≤ 1000000000) (w : World) (h : Cur bs A c l (k : Int) w) :
 Calls Tryz.prog 219 #[.pointer (some ⟨bs, 0, none⟩), .int .i64 (n : Int)] w fun e w' => e = .returned (.tuple #[.slice none 0 0, .bool false]) ∧ Hid (Cur bs A c l (k : Int) w') ∧ Below bs w w' := by
 have R := Hi (rest_in bs c A l k hk hl w h)
 have HH := Hi h
 have hbs := h.lt
 have e1 : decide (l.length - k < n) = true := by simp; omega
 clear h
 go_enter Tryz.func219, Tryz.ntmps219
 go_wp2_with fail
 refine R.out.mono ?_
 rintro e w1 ⟨rfl, hb⟩
 have H1 := Hi (HH.out.grow hb)
 clear R HH
 go_wp2_with fail
 go_ret2
 exact ⟨rfl, H1.out, hb.mono (Nat.le_of_lt hbs)⟩
theorem sp_text {n : Nat} (h : spN n = true) : textN n = true := by
 unfold spN at h
 unfold textN
 simp at h ⊢
 omega
theorem char_A2 (bs c : Nat) (A : Option Addr) (l : List UInt8) (k : Nat) (d : UInt8) (h1 : l[k]? = some 92) (h2 : l[k + 1]? = some d) (hl : l.length ≤ 1000000000) (w : World) (h : Cur bs A c l (k : Int) w) :
 Calls Tryz.prog 218 #[.pointer (some ⟨bs, 0, none⟩)] w fun e w' => e = .returned (.bool (spN d.toNat)) ∧ Hid (Cur bs A c l ((k + 2 : Nat) : Int) w') ∧ Below bs w w' := by
 have hk : k + 1 < l.length := (List.getElem?_eq_some_iff.1 h2).1
 have P := Hi (pass_t bs c A l k 92 h1 hl w h)
 have T := Hi (fun w1 (hc : Cur bs A c l ((k + 1 : Nat) : Int) w1) => take_t bs c A l (k + 1) 1 (by omega) hl w1 hc)
 have hbs := h.lt
 have H2 := Hi h2
 have hn : d.toNat ≤ 255 := by have := d.toNat_lt; omega
 have TX := fun w1 => text_any d.toNat w1 hn
 have SP := fun w1 => special_any d.toNat hn w1
 clear h h1 h2 hk
 cases hs : spN d.toNat with
 | true =>
   rw [sp_text hs] at TX
   rw [hs] at SP
   have TX := Hi TX
   have SP := Hi SP
   clear hs
   go_enter Tryz.func218, Tryz.ntmps218
   go_wp2_with fail
   refine P.out.mono ?_
   rintro e w1 ⟨rfl, hc1, hb1⟩
   have T := Hi (T.out w1 (hc1.out.cast (by omega)))
   go_wp2_with fail
   refine T.out.mono ?_
   rintro e w2 ⟨rfl, hc2, hb2⟩
   have hB2 := hb1.trans hb2
   obtain ⟨b, off, he, hbw, hc⟩ := hc2.out.byte H2.out
   rw [he]
   have HE := Hi he
   clear he hc1 hb1 hb2 T P
   go_wp2_with fail
   refine (TX.out _).mono ?_
   rintro e w3 ⟨rfl, h3⟩
   have hc' := (h3.cell (p := ⟨b, off, none⟩) hbw).trans hc
   have H3 := Hi (hc2.out.grow h3)
   have hB3 := hB2.trans (h3.mono (Nat.le_of_lt hc2.out.lt))
   clear hc h3 hc2 hB2
   go_wp2_with fail
   refine (SP.out _).mono ?_
   rintro e w4 ⟨rfl, rfl⟩
   go_wp2_with fail
   go_ret
   exact ⟨rfl, H3.out.cast (by omega), hB3⟩
 | false =>
   rw [hs] at SP
   have SP := Hi SP
   clear hs
   cases ht : textN d.toNat with
   | true =>
     rw [ht] at TX
     have TX := Hi TX
     clear ht
     go_enter Tryz.func218, Tryz.ntmps218
     go_wp2_with fail
     refine P.out.mono ?_
     rintro e w1 ⟨rfl, hc1, hb1⟩
     have T := Hi (T.out w1 (hc1.out.cast (by omega)))
     go_wp2_with fail
     refine T.out.mono ?_
     rintro e w2 ⟨rfl, hc2, hb2⟩
     have hB2 := hb1.trans hb2
     obtain ⟨b, off, he, hbw, hc⟩ := hc2.out.byte H2.out
     rw [he]
     have HE := Hi he
     clear he hc1 hb1 hb2 T P
     go_wp2_with fail
     refine (TX.out _).mono ?_
     rintro e w3 ⟨rfl, h3⟩
     have hc' := (h3.cell (p := ⟨b, off, none⟩) hbw).trans hc
     have H3 := Hi (hc2.out.grow h3)
     have hB3 := hB2.trans (h3.mono (Nat.le_of_lt hc2.out.lt))
     clear hc h3 hc2 hB2
     go_wp2_with fail
     refine (SP.out _).mono ?_
     rintro e w4 ⟨rfl, rfl⟩
     go_wp2_with fail
     go_ret
     exact ⟨rfl, H3.out.cast (by omega), hB3⟩
   | false =>
     rw [ht] at TX
     have TX := Hi TX
     clear ht
     go_enter Tryz.func218, Tryz.ntmps218
     go_wp2_with fail
     refine P.out.mono ?_
     rintro e w1 ⟨rfl, hc1, hb1⟩
     have T := Hi (T.out w1 (hc1.out.cast (by omega)))
     go_wp2_with fail
     refine T.out.mono ?_
     rintro e w2 ⟨rfl, hc2, hb2⟩
     have hB2 := hb1.trans hb2
     obtain ⟨b, off, he, hbw, hc⟩ := hc2.out.byte H2.out
     rw [he]
     have HE := Hi he
     clear he hc1 hb1 hb2 T P
     go_wp2_with fail
     refine (TX.out _).mono ?_
     rintro e w3 ⟨rfl, h3⟩
     have H3 := Hi (hc2.out.grow h3)
     have hB3 := hB2.trans (h3.mono (Nat.le_of_lt hc2.out.lt))
     clear hc h3 hc2 hB2
     go_wp2_with fail
     go_ret
     exact ⟨rfl, H3.out.cast (by omega), hB3⟩
theorem char_A1 (bs c : Nat) (A : Option Addr) (l : List UInt8) (k : Nat) (h1 : l[k]? = some 92) (h2 : k + 1 = l.length) (hl : l.length ≤ 1000000000) (w : World) (h : Cur bs A c l (k : Int) w) :
 Calls Tryz.prog 218 #[.pointer (some ⟨bs, 0, none⟩)] w fun e w' => e = .returned (.bool false) ∧ Below bs w w' := by
 have P := Hi (pass_t bs c A l k 92 h1 hl w h)
 have T := Hi (fun w1 (hc : Cur bs A c l ((k + 1 : Nat) : Int) w1) => take_f bs c A l (k + 1) 1 (by omega) (by omega) hl w1 hc)
 clear h h1 h2
 go_enter Tryz.func218, Tryz.ntmps218
 go_wp2_with fail
 refine P.out.mono ?_
 rintro e w1 ⟨rfl, hc1, hb1⟩
 have T := Hi (T.out w1 (hc1.out.cast (by omega)))
 go_wp2_with fail
 refine T.out.mono ?_
 rintro e w2 ⟨rfl, hc2, hb2⟩
 have hB2 := hb1.trans hb2
 clear hb1 hb2 T P
 go_wp2_with fail
 go_ret
 exact ⟨rfl, hB2⟩
theorem char_0 (bs c : Nat) (A : Option Addr) (l : List UInt8) (hl : l.length ≤ 1000000000) (w : World) (h : Cur bs A c l (l.length : Int) w) :
 Calls Tryz.prog 218 #[.pointer (some ⟨bs, 0, none⟩)] w fun e w' => e = .returned (.bool false) ∧ Below bs w w' := by
 have P := Hi (pass_f bs c A l l.length (Nat.le_refl _) 92 (by simp) hl w h)
 have T := Hi (fun w1 (hc : Cur bs A c l (l.length : Int) w1) => take_f bs c A l l.length 1 (by omega) (by omega) hl w1 hc)
 clear h
 go_enter Tryz.func218, Tryz.ntmps218
 go_wp2_with fail
 refine P.out.mono ?_
 rintro e w1 ⟨rfl, hc1, hb1⟩
 have T := Hi (T.out w1 hc1.out)
 go_wp2_with fail
 refine T.out.mono ?_
 rintro e w2 ⟨rfl, hc2, hb2⟩
 have hB2 := hb1.trans hb2
 clear hb1 hb2 T P
 go_wp2_with fail
 go_ret
 exact ⟨rfl, hB2⟩
theorem char_B (bs c : Nat) (A : Option Addr) (l : List UInt8) (k : Nat) (d : UInt8) (h1 : l[k]? = some d) (h2 : d ≠ 92) (hl : l.length ≤ 1000000000) (w : World) (h : Cur bs A c l (k : Int) w) :
 Calls Tryz.prog 218 #[.pointer (some ⟨bs, 0, none⟩)] w fun e w' => e = .returned (.bool (textN d.toNat)) ∧ Hid (Cur bs A c l ((k + 1 : Nat) : Int) w') ∧ Below bs w w' := by
 have hk : k < l.length := (List.getElem?_eq_some_iff.1 h1).1
 have P := Hi (pass_f bs c A l k (by omega) 92 (by rw [h1]; intro e; exact h2 (Option.some.inj e)) hl w h)
 have T := Hi (fun w1 (hc : Cur bs A c l (k : Int) w1) => take_t bs c A l k 1 (by omega) hl w1 hc)
 have hbs := h.lt
 have H2 := Hi h1
 have hn : d.toNat ≤ 255 := by have := d.toNat_lt; omega
 have TX := fun w1 => text_any d.toNat w1 hn
 clear h h1 h2 hk
 cases ht : textN d.toNat with
 | true =>
   rw [ht] at TX
   have TX := Hi TX
   clear ht
   go_enter Tryz.func218, Tryz.ntmps218
   go_wp2_with fail
   refine P.out.mono ?_
   rintro e w1 ⟨rfl, hc1, hb1⟩
   have T := Hi (T.out w1 hc1.out)
   go_wp2_with fail
   refine T.out.mono ?_
   rintro e w2 ⟨rfl, hc2, hb2⟩
   have hB2 := hb1.trans hb2
   obtain ⟨b, off, he, hbw, hc⟩ := hc2.out.byte H2.out
   rw [he]
   have HE := Hi he
   clear he hc1 hb1 hb2 T P
   go_wp2_with fail
   refine (TX.out _).mono ?_
   rintro e w3 ⟨rfl, h3⟩
   have H3 := Hi (hc2.out.grow h3)
   have hB3 := hB2.trans (h3.mono (Nat.le_of_lt hc2.out.lt))
   clear hc h3 hc2 hB2
   go_wp2_with fail
   go_ret
   exact ⟨rfl, H3.out.cast (by omega), hB3⟩
 | false =>
   rw [ht] at TX
   have TX := Hi TX
   clear ht
   go_enter Tryz.func218, Tryz.ntmps218
   go_wp2_with fail
   refine P.out.mono ?_
   rintro e w1 ⟨rfl, hc1, hb1⟩
   have T := Hi (T.out w1 hc1.out)
   go_wp2_with fail
   refine T.out.mono ?_
   rintro e w2 ⟨rfl, hc2, hb2⟩
   have hB2 := hb1.trans hb2
   obtain ⟨b, off, he, hbw, hc⟩ := hc2.out.byte H2.out
   rw [he]
   have HE := Hi he
   clear he hc1 hb1 hb2 T P
   go_wp2_with fail
   refine (TX.out _).mono ?_
   rintro e w3 ⟨rfl, h3⟩
   have H3 := Hi (hc2.out.grow h3)
   have hB3 := hB2.trans (h3.mono (Nat.le_of_lt hc2.out.lt))
   clear hc h3 hc2 hB2
   go_wp2_with fail
   go_ret
   exact ⟨rfl, H3.out.cast (by omega), hB3⟩
theorem char_t (bs c : Nat) (A : Option Addr) (l : List UInt8) (k n : Nat) (hn : chN (l.drop k) = n) (h0 : 0 < n) (hl : l.length ≤ 1000000000) (w : World) (h : Cur bs A c l (k : Int) w) :
 Calls Tryz.prog 218 #[.pointer (some ⟨bs, 0, none⟩)] w fun e w' => e = .returned (.bool true) ∧ Hid (Cur bs A c l ((k + n : Nat) : Int) w') ∧ Below bs w w' := by
 match hd : l.drop k, hn with
 | [], hn => subst hn; simp [chN] at h0
 | [d], hn =>
   have hk : l[k]? = some d := by rw [← Nat.add_zero k, ← List.getElem?_drop, hd]; rfl
   rw [chN] at hn
   by_cases h92 : d = 92
   · rw [if_pos h92] at hn; omega
   · rw [if_neg h92] at hn
     by_cases ht : textN d.toNat = true
     · rw [if_pos ht] at hn
       subst hn
       have := char_B bs c A l k d hk h92 hl w h
       rwa [ht] at this
     · rw [if_neg ht] at hn; omega
 | d :: e :: r, hn =>
   have hk : l[k]? = some d := by rw [← Nat.add_zero k, ← List.getElem?_drop, hd]; rfl
   have hk1 : l[k + 1]? = some e := by rw [← List.getElem?_drop, hd]; rfl
   rw [chN] at hn
   by_cases h92 : d = 92
   · rw [if_pos h92] at hn
     subst h92
     by_cases hs : spN e.toNat = true
     · rw [if_pos hs] at hn
       subst hn
       have := char_A2 bs c A l k e hk hk1 hl w h
       rwa [hs] at this
     · rw [if_neg hs] at hn; omega
   · rw [if_neg h92] at hn
     by_cases ht : textN d.toNat = true
     · rw [if_pos ht] at hn
       subst hn
       have := char_B bs c A l k d hk h92 hl w h
       rwa [ht] at this
     · rw [if_neg ht] at hn; omega
theorem char_f (bs c : Nat) (A : Option Addr) (l : List UInt8) (k : Nat) (hk0 : k ≤ l.length) (hn : chN (l.drop k) = 0) (hl : l.length ≤ 1000000000) (w : World) (h : Cur bs A c l (k : Int) w) :
 Calls Tryz.prog 218 #[.pointer (some ⟨bs, 0, none⟩)] w fun e w' => e = .returned (.bool false) ∧ Below bs w w' := by
 match hd : l.drop k, hn with
 | [], _ =>
   have hkl : k = l.length := by have := congrArg List.length hd; rw [List.length_drop] at this; simp at this; omega
   subst hkl
   exact char_0 bs c A l hl w h
 | [d], hn =>
   have hk : l[k]? = some d := by rw [← Nat.add_zero k, ← List.getElem?_drop, hd]; rfl
   have hkl : k + 1 = l.length := by have := congrArg List.length hd; rw [List.length_drop] at this; simp at this; omega
   rw [chN] at hn
   by_cases h92 : d = 92
   · subst h92
     exact char_A1 bs c A l k hk hkl hl w h
   · rw [if_neg h92] at hn
     by_cases ht : textN d.toNat = true
     · rw [if_pos ht] at hn; cases hn
     · have := char_B bs c A l k d hk h92 hl w h
       rw [Bool.eq_false_iff.2 ht] at this
       exact this.mono fun _ _ h => ⟨h.1, h.2.2⟩
 | d :: e :: r, hn =>
   have hk : l[k]? = some d := by rw [← Nat.add_zero k, ← List.getElem?_drop, hd]; rfl
   have hk1 : l[k + 1]? = some e := by rw [← List.getElem?_drop, hd]; rfl
   rw [chN] at hn
   by_cases h92 : d = 92
   · rw [if_pos h92] at hn
     subst h92
     by_cases hs : spN e.toNat = true
     · rw [if_pos hs] at hn; cases hn
     · have := char_A2 bs c A l k e hk hk1 hl w h
       rw [Bool.eq_false_iff.2 hs] at this
       exact this.mono fun _ _ h => ⟨h.1, h.2.2⟩
   · rw [if_neg h92] at hn
     by_cases ht : textN d.toNat = true
     · rw [if_pos ht] at hn; cases hn
     · have := char_B bs c A l k d hk h92 hl w h
       rw [Bool.eq_false_iff.2 ht] at this
       exact this.mono fun _ _ h => ⟨h.1, h.2.2⟩
def QPost (bs c : Nat) (A : Option Addr) (l : List UInt8) (k : Nat) (e : Ending) (w' : World) : Prop :=
 (∃ P n, ZL (l.drop (k + 1)) = some (P, n) ∧ e = .returned (.tuple #[.slice (offA A c (k + 1)) n (c - (k + 1)), .bool true]) ∧ Cur bs A c l ((k + 1 + n + 1 : Nat) : Int) w') ∨
 (ZL (l.drop (k + 1)) = none ∧ e = .returned (.tuple #[.slice none 0 0, .bool false]))
theorem quotedF_mark (bs c : Nat) (A : Option Addr) (l : List UInt8) (k : Nat) (hm : l[k]? = some 34) (hl : l.length ≤ 1000000000) (w : World) (h : Cur bs A c l (k : Int) w) :
 Calls Tryz.prog 200 #[.pointer (some ⟨bs, 0, none⟩)] w fun e w' => QPost bs c A l k e w' ∧ Below bs w w' := by
 have hk : k < l.length := (List.getElem?_eq_some_iff.1 hm).1
 have hle := h.lies.le
 have hbs := h.lt
 have P := Hi (pass_t bs c A l k 34 hm hl w h)
 have PT := Hi (fun p hp w1 hc => pass_t bs c A l p 34 hp hl w1 hc)
 have PF := Hi (fun p hp hx w1 hc => pass_f bs c A l p hp 34 hx hl w1 hc)
 have CT := Hi (fun p n hn h0 w1 hc => char_t bs c A l p n hn h0 hl w1 hc)
 have CF := Hi (fun p hp hn w1 hc => char_f bs c A l p hp hn hl w1 hc)
 have HQ := Hi (QAt.start l (k + 1))
 clear h hm
 have hkf : ((k : Int) + 1) = ((k + 1 : Nat) : Int) := by omega
 obtain ⟨f, hf⟩ : ∃ f, k + 1 = f := ⟨_, rfl⟩
 rw [hkf, hf] at P
 rw [hf] at HQ
 have HF := Hi hf
 have hf1 : f ≤ l.length := by omega
 have hse := fun x lo hi mx W => YY x lo hi mx W
 clear hkf hf
 go_enter Tryz.func200, Tryz.ntmps200
 go_wp2_with fail
 refine P.out.mono ?_
 rintro e w1 ⟨rfl, hc1, hb1⟩
 have c1 := hc1.out.c1
 clear P
 go_wp2_with fail
 go_loopg [15] l.length (fun gg _ wr => ∃ (p : Nat) (X : List UInt8), p ≤ l.length ∧ l.length - p ≤ gg ∧ f ≤ p ∧ Hid (Cur bs A c l (p : Int) wr) ∧ Hid (QAt l f p X) ∧ Hid (Below bs w wr))
 case atStart => exact ⟨f, [], by omega, by omega, by omega, hc1, HQ, hb1⟩
 case round =>
  obtain ⟨p, X, hp, hgg, hfp, hC, hX, hB⟩ := hrel
  clear c1 hc1 HQ hb1
  by_cases h34 : l[p]? = some 34
  · have PT := Hi (PT.out p h34 wr hC.out)
    have HR := Hi (hX.out.mark h34)
    clear h34 PF CT CF
    go_wp2_with fail
    refine PT.out.mono ?_
    rintro e w2 ⟨rfl, hc2, hb2⟩
    have hB2 := Hi (hB.out.trans hb2)
    have c0 := hc2.out.c0
    have c1 := hc2.out.c1
    have hsl := fun W => slice_lh A l.length c f p hfp (by omega) W
    have hsum : IntKind.i64.wrap ((p : Int) + 1 - 1) = (p : Int) := by rw [Go.IntWalk.i64_in _ (by omega)]; omega
    clear hb2 PT
    go_wp2_with fail
    go_quiet (fail)
    go_wp2_with fail
    go_ret2
    refine ⟨?_, hB2.out.trans ((ZF w2 _).mono (Nat.le_of_lt hc2.out.lt))⟩
    unfold QPost
    rw [HF.out]
    exact Or.inl ⟨X, p - f, HR.out, rfl, (hc2.out.grow (ZF w2 _)).cast (by omega)⟩
  · have PF := Hi (PF.out p hp h34 wr hC.out)
    have HX := Hi (fun n hn h0 => hX.out.go h34 (n := n) hn h0)
    have HS := Hi (fun hn => hX.out.stop h34 hn)
    have hle2 := chN_le (l.drop p)
    rw [List.length_drop] at hle2
    clear h34 PT
    cases hn : chN (l.drop p) with
    | zero =>
      have CF := Hi (CF.out p hp hn)
      have HN := Hi (HS.out hn)
      clear hn hle2 CT HX HS
      go_wp2_with fail
      refine PF.out.mono ?_
      rintro e w2 ⟨rfl, hc2, hb2⟩
      have CF := Hi (CF.out w2 hc2.out)
      have hB2 := Hi (hB.out.trans hb2)
      clear hb2 PF
      go_wp2_with fail
      refine CF.out.mono ?_
      rintro e w3 ⟨rfl, hb3⟩
      have hB3 := Hi (hB2.out.trans hb3)
      clear hb3 CF
      go_wp2_with fail
      go_ret2
      refine ⟨?_, hB3.out⟩
      unfold QPost
      rw [HF.out]
      exact Or.inr ⟨HN.out, rfl⟩
    | succ m =>
      have CT := Hi (CT.out p (m + 1) hn (by omega))
      have HN := Hi (HX.out (m + 1) hn (by omega))
      rw [hn] at hle2
      clear hn CF HX HS
      go_wp2_with fail
      refine PF.out.mono ?_
      rintro e w2 ⟨rfl, hc2, hb2⟩
      have CT := Hi (CT.out w2 hc2.out)
      have hB2 := Hi (hB.out.trans hb2)
      clear hb2 PF
      go_wp2_with fail
      refine CT.out.mono ?_
      rintro e w3 ⟨rfl, hc3, hb3⟩
      have hB3 := Hi (hB2.out.trans hb3)
      clear hb3 CT
      go_wp2_with fail
      go_roundg (l.length - (p + (m + 1)))
      case measure => omega
      case rel => exact ⟨p + (m + 1), _, by omega, by omega, by omega, hc3, HN.out, hB3⟩
theorem quotedF_no (bs c : Nat) (A : Option Addr) (l : List UInt8) (k : Nat) (hk : k ≤ l.length) (hm : l[k]? ≠ some 34) (hl : l.length ≤ 1000000000) (w : World) (h : Cur bs A c l (k : Int) w) :
 Calls Tryz.prog 200 #[.pointer (some ⟨bs, 0, none⟩)] w fun e w' => e = .returned (.tuple #[.slice none 0 0, .bool false]) ∧ Below bs w w' := by
 have P := Hi (pass_f bs c A l k hk 34 hm hl w h)
 clear h hm
 go_enter Tryz.func200, Tryz.ntmps200
 go_wp2_with fail
 refine P.out.mono ?_
 rintro e w1 ⟨rfl, _, hb1⟩
 go_wp2_with fail
 go_ret2
 exact ⟨rfl, hb1⟩
theorem quotedF_out (bs c : Nat) (A : Option Addr) (l : List UInt8) (x : Int) (h1 : -9223372036854775808 ≤ x) (h2 : x ≤ 9223372036854775807) (hx : x < 0 ∨ (l.length : Int) < x) (hl : l.length ≤ 1000000000) (w : World) (h : Cur bs A c l x w) :
 Calls Tryz.prog 200 #[.pointer (some ⟨bs, 0, none⟩)] w fun e w' => e = .returned (.tuple #[.slice none 0 0, .bool false]) ∧ Below bs w w' := by
 have P := Hi (pass_out bs c A l x h1 h2 hx 34 hl w h)
 clear h hx h1 h2
 go_enter Tryz.func200, Tryz.ntmps200
 go_wp2_with fail
 refine P.out.mono ?_
 rintro e w1 ⟨rfl, _, hb1⟩
 go_wp2_with fail
 go_ret2
 exact ⟨rfl, hb1⟩
def scanQ (l : List UInt8) (x : Int) : Option (List UInt8 × Nat) :=
 if 0 ≤ x ∧ l[x.toNat]? = some 34 then (ZL (l.drop (x.toNat + 1))).map (fun t => (t.1, x.toNat + 1 + t.2 + 1)) else none
def SPost (o : Option (List UInt8 × Nat)) (base : Nat) (e : Ending) (w' : World) : Prop :=
 (∃ (P : List UInt8) (m : Nat) (g c' : Nat), o = some (P, m) ∧ e = .returned (.tuple #[.slice (some ⟨g, 0, none⟩) P.length c', .int .i64 (m : Int), .bool true]) ∧ w'.ownsRow base 5 1 (.slice (some ⟨g, 0, none⟩) P.length c') P.length (YF encB P)) ∨
 (o = none ∧ e = .returned (.tuple #[.slice none 0 0, .int .i64 0, .bool false]))
theorem scanQ_no {l : List UInt8} {x : Int} (h : x < 0 ∨ l[x.toNat]? ≠ some 34) : scanQ l x = none := by
 unfold scanQ
 rw [if_neg]
 rintro ⟨h1, h2⟩
 rcases h with h | h
 · omega
 · exact h h2
theorem scanQ_yes {l : List UInt8} {k : Nat} (h : l[k]? = some 34) : scanQ l (k : Int) = (ZL (l.drop (k + 1))).map (fun t => (t.1, k + 1 + t.2 + 1)) := by
 unfold scanQ
 rw [if_pos ⟨by omega, h⟩]
 rfl
theorem scanQ_fail (B c : Nat) (A : Option Addr) (l : List UInt8) (x : Int) (w : World)
 (hQ : ∀ w1, Cur w.heap.size A c l x w1 → Calls Tryz.prog 200 #[.pointer (some ⟨w.heap.size, 0, none⟩)] w1 fun e w' => e = .returned (.tuple #[.slice none 0 0, .bool false]) ∧ Below w.heap.size w1 w') (hA : ByAt B w A c l) :
 Calls Tryz.prog 177 #[.slice A l.length c, .int .i64 x] w fun e w' => e = .returned (.tuple #[.slice none 0 0, .int .i64 0, .bool false]) ∧ Below w.heap.size w w' := by
 have Q := Hi (hQ _ (cur_new hA x))
 clear hQ hA
 go_enter Tryz.func177, Tryz.ntmps177
 go_wp2_with fail
 refine Q.out.mono ?_
 rintro e w1 ⟨rfl, hb⟩
 have hB := (YB w (.cells #[.slice A l.length c, .int .i64 x] 193)).trans hb
 go_wp2_with fail
 exact bodyPost_ret (v := .tuple #[.slice none 0 0, .int .i64 0, .bool false]) (by simp [results, Tryz.results177, go_sem]) rfl ⟨rfl, hB⟩
theorem scanQuoted_mark (B c : Nat) (A : Option Addr) (l : List UInt8) (k : Nat) (hk : l[k]? = some 34) (hl : l.length ≤ 1000000) (w : World) (hA : ByAt B w A c l) :
 Calls Tryz.prog 177 #[.slice A l.length c, .int .i64 (k : Int)] w fun e w' => SPost (scanQ l (k : Int)) w.heap.size e w' ∧ Below w.heap.size w w' := by
 have hkl : k < l.length := (List.getElem?_eq_some_iff.1 hk).1
 have Q := Hi (quotedF_mark w.heap.size c A l k hk (by omega) _ (cur_new hA (k : Int)))
 have PL := Hi (fun B A c n l hn hl hw w1 hA => plain_any B A c n l hn hl hw w1 hA)
 rw [scanQ_yes hk]
 have HA := Hi hA.here
 clear hA hk
 obtain ⟨o, ho⟩ : ∃ o, (ZL (l.drop (k + 1))).map (fun t => (t.1, k + 1 + t.2 + 1)) = o := ⟨_, rfl⟩
 rw [ho]
 have HO := Hi ho
 clear ho
 go_enter Tryz.func177, Tryz.ntmps177
 go_wp2_with fail
 refine Q.out.mono ?_
 rintro e w1 ⟨hq, hb⟩
 have hB := (YB w (.cells #[.slice A l.length c, .int .i64 (k : Int)] 193)).trans hb
 unfold QPost at hq
 rcases hq with ⟨P, n, hs, rfl, hc⟩ | ⟨hn, rfl⟩
 · obtain ⟨a1, a2, a3, _⟩ := q_plain _ _ _ hs
   rw [List.length_drop] at a1
   have e1 : ((l.take (k + 1 + n)).drop (k + 1)) = (l.drop (k + 1)).take n := by rw [List.drop_take]; congr 1; omega
   have hBy := (HA.out.below hB).cut (lo := k + 1) (hi := k + 1 + n) (by omega) (by omega)
   rw [e1] at hBy
   have hlen : ((l.drop (k + 1)).take n).length = n := by rw [List.length_take, List.length_drop]; omega
   have PL2 : ∀ W, Below w1.heap.size w1 W → Calls Tryz.prog 201 #[.slice (offA A c (k + 1)) n (c - (k + 1))] W fun e w' => ∃ g c', e = .returned (.slice (some ⟨g, 0, none⟩) P.length c') ∧ Hid (w'.ownsRow w.heap.size 5 1 (.slice (some ⟨g, 0, none⟩) P.length c') P.length (YF encB P)) ∧ Below w1.heap.size w1 w' := fun W hW => by
    have := PL.out _ (offA A c (k + 1)) (c - (k + 1)) n _ hlen (by omega) a3 W (hBy.grow hW)
    rw [a2] at this
    refine this.mono ?_
    rintro e w' ⟨g, c', h1, h2, h3⟩
    exact ⟨g, c', h1, Joins.ownsRow_le h2 (by have := hB.size; have := hW.size; omega), YA hW h3⟩
   have PL2 := Hi PL2
   have c1 := hc.c1
   have hsz := hc.lt
   have HR := Hi (show o = some (P, k + 1 + n + 1) by rw [← HO.out, hs]; rfl)
   generalize k + 1 + n + 1 = m at *
   have HB := Hi hB
   clear a1 a2 a3 e1 hBy hlen hs hc hb hB PL Q HA HO
   go_wp2_with fail
   go_region_with (go_at_call 201; refine (PL2.out _ (by repeat (first | assumption | exact Below.refl _ _ | refine Below.drew ?_ ))).mono ?_; rintro e w3 ⟨g, c', rfl, ho, hb3⟩; have c3 : w3.cell? ⟨w.heap.size, 1, none⟩ = some (.int .i64 (m : Int)) := (hb3.cell (p := ⟨w.heap.size, 1, none⟩) hsz).trans c1)
   all_goals
    have HB3 := Hi (HB.out.trans (hb3.mono HB.out.size))
    clear hb3
    go_wp2_with fail
    refine bodyPost_ret (v := .tuple #[.slice (some ⟨g, 0, none⟩) P.length c', .int .i64 (m : Int), .bool true]) (by simp [results, Tryz.results177, go_sem]) rfl ⟨?_, HB3.out⟩
    exact Or.inl ⟨P, m, g, c', HR.out, rfl, ho.out⟩
 · have HR := Hi (show o = none by rw [← HO.out, hn]; rfl)
   clear hn
   go_wp2_with fail
   refine bodyPost_ret (v := .tuple #[.slice none 0 0, .int .i64 0, .bool false]) (by simp [results, Tryz.results177, go_sem]) rfl ⟨?_, hB⟩
   exact Or.inr ⟨HR.out, rfl⟩
theorem scanQuoted_any (B c : Nat) (A : Option Addr) (l : List UInt8) (x : Int) (h1 : -9223372036854775808 ≤ x) (h2 : x ≤ 9223372036854775807) (hl : l.length ≤ 1000000) (w : World) (hA : ByAt B w A c l) :
 Calls Tryz.prog 177 #[.slice A l.length c, .int .i64 x] w fun e w' => SPost (scanQ l x) w.heap.size e w' ∧ Below w.heap.size w w' := by
 by_cases hin : 0 ≤ x ∧ x ≤ l.length
 · obtain ⟨k, rfl⟩ : ∃ k : Nat, x = k := ⟨x.toNat, by omega⟩
   by_cases h34 : l[k]? = some 34
   · exact scanQuoted_mark B c A l k h34 hl w hA
   · rw [scanQ_no (Or.inr h34)]
     exact (scanQ_fail B c A l k w (fun w1 hc => quotedF_no w.heap.size c A l k (by omega) h34 (by omega) w1 hc) hA).mono fun e w' ⟨he, hb⟩ => ⟨Or.inr ⟨rfl, he⟩, hb⟩
 · have hx : x < 0 ∨ (l.length : Int) < x := by omega
   rw [scanQ_no (by rcases hx with h | h; exact Or.inl h; exact Or.inr (by rw [List.getElem?_eq_none (by omega)]; simp))]
   exact (scanQ_fail B c A l x w (fun w1 hc => quotedF_out w.heap.size c A l x h1 h2 hx (by omega) w1 hc) hA).mono fun e w' ⟨he, hb⟩ => ⟨Or.inr ⟨rfl, he⟩, hb⟩
def litO (r : List UInt8) : Option (List UInt8 × Nat) :=
 match annO r with
 | some (n, j) => if n ≤ 65536 ∧ r[j]? = some 13 ∧ r[j + 1]? = some 10 ∧ j + 2 + n ≤ r.length then some ((r.drop (j + 2)).take n, j + 2 + n) else none
 | none => none
def scanL (l : List UInt8) (x : Int) : Option (List UInt8 × Nat) := if 0 ≤ x then (litO (l.drop x.toNat)).map (fun t => (t.1, x.toNat + t.2)) else none
theorem scanL_none {l : List UInt8} {x : Int} (h : annX l x = none) : scanL l x = none := by
 unfold annX at h
 unfold scanL litO
 by_cases h0 : 0 ≤ x
 · rw [if_pos h0] at h ⊢
   rw [h]
   rfl
 · rw [if_neg h0]
theorem scanL_some {l : List UInt8} {k n j : Nat} (h : annX l (k : Int) = some (n, j)) : scanL l (k : Int) = if n ≤ 65536 ∧ l[k + j]? = some 13 ∧ l[k + j + 1]? = some 10 ∧ k + j + 2 + n ≤ l.length then some ((l.drop (k + j + 2)).take n, k + j + 2 + n) else none := by
 unfold annX at h
 rw [if_pos (by omega)] at h
 unfold scanL litO
 rw [if_pos (by omega)]
 have e : ((k : Int)).toNat = k := rfl
 rw [e] at h ⊢
 rw [h]
 simp only [List.getElem?_drop, List.length_drop, List.drop_drop]
 have hj : j + 2 ≤ (l.drop k).length ∨ True := Or.inr trivial
 clear hj
 by_cases hc : n ≤ 65536 ∧ l[k + j]? = some 13 ∧ l[k + j + 1]? = some 10 ∧ k + j + 2 + n ≤ l.length
 · rw [if_pos hc, if_pos ⟨hc.1, hc.2.1, by rw [← Nat.add_assoc]; exact hc.2.2.1, by have := hc.2.2.2; omega⟩]
   simp only [Option.map_some, Option.some.injEq, Prod.mk.injEq]
   exact ⟨by rw [← Nat.add_assoc], by omega⟩
 · rw [if_neg hc, if_neg (fun hd => hc ⟨hd.1, hd.2.1, by rw [Nat.add_assoc]; exact hd.2.2.1, by
    have h1 := hd.2.2.2
    have h2 := (List.getElem?_eq_some_iff.1 hd.2.2.1).1
    omega⟩)]
   rfl
def LPost (bs c : Nat) (A : Option Addr) (l : List UInt8) (x : Int) (e : Ending) (w' : World) : Prop :=
 (∃ q n : Nat, q + n ≤ l.length ∧ scanL l x = some ((l.drop q).take n, q + n) ∧ e = .returned (.tuple #[.slice (offA A c q) n (c - q), .bool true]) ∧ Cur bs A c l ((q + n : Nat) : Int) w') ∨
 (scanL l x = none ∧ e = .returned (.tuple #[.slice none 0 0, .bool false]))
theorem literalF_any (bs c : Nat) (A : Option Addr) (l : List UInt8) (x : Int) (h1 : -9223372036854775808 ≤ x) (h2 : x ≤ 9223372036854775807) (hl : l.length ≤ 1000000000) (w : World) (henv : ∀ w1, Below bs w w1 → Env w1) (h : Cur bs A c l x w) :
 Calls Tryz.prog 202 #[.pointer (some ⟨bs, 0, none⟩)] w fun e w' => LPost bs c A l x e w' ∧ Below bs w w' := by
 have AN := Hi (annF_any bs c A l x h1 h2 hl w henv h)
 have PT13 := Hi (fun p hp w1 hc => pass_t bs c A l p 13 hp hl w1 hc)
 have PF13 := Hi (fun p hp hx w1 hc => pass_f bs c A l p hp 13 hx hl w1 hc)
 have PT10 := Hi (fun p hp w1 hc => pass_t bs c A l p 10 hp hl w1 hc)
 have PF10 := Hi (fun p hp hx w1 hc => pass_f bs c A l p hp 10 hx hl w1 hc)
 have TT := Hi (fun p n hn w1 hc => take_t bs c A l p n hn hl w1 hc)
 have TF := Hi (fun p n hp hn w1 hc => take_f bs c A l p n hp hn hl w1 hc)
 clear h henv
 go_enter Tryz.func202, Tryz.ntmps202
 go_wp2_with fail
 refine AN.out.mono ?_
 rintro e w1 ⟨ha, hb⟩
 unfold AXPost at ha
 rcases ha with ⟨n, j, k, rfl, ha, hn, hkj, rfl, hc⟩ | ⟨ha, n, rfl⟩
 · have HS := Hi (scanL_some ha)
   have HC := Hi hc
   have HB := Hi hb
   clear ha AN hc hb
   obtain ⟨q, hq⟩ : ∃ q, k + j = q := ⟨_, rfl⟩
   rw [hq] at HS HC hkj
   clear hq
   by_cases hbig : n ≤ 65536
   · have e1 : decide (65536 < (n : Int)) = false := by simp; omega
     by_cases h13 : l[q]? = some 13
     · have hq1 := (List.getElem?_eq_some_iff.1 h13).1
       have P1 := Hi (PT13.out q h13 w1 HC.out)
       by_cases h10 : l[q + 1]? = some 10
       · have hq2 := (List.getElem?_eq_some_iff.1 h10).1
         have P2 := Hi (PT10.out (q + 1) h10)
         by_cases hfit : q + 2 + n ≤ l.length
         · have HR := Hi (HS.out.trans (if_pos ⟨hbig, h13, h10, hfit⟩))
           have T := Hi (TT.out (q + 2) n hfit)
           clear h13 h10 PT13 PF13 PT10 PF10 TT TF HS
           go_wp2_with fail
           refine P1.out.mono ?_
           rintro e w2 ⟨rfl, hc2, hb2⟩
           have P2 := Hi (P2.out w2 (hc2.out.cast (by omega)))
           have HB2 := Hi (HB.out.trans hb2)
           clear hb2 P1
           go_wp2_with fail
           refine P2.out.mono ?_
           rintro e w3 ⟨rfl, hc3, hb3⟩
           have T := Hi (T.out w3 (hc3.out.cast (by omega)))
           have HB3 := Hi (HB2.out.trans hb3)
           clear hb3 P2
           go_wp2_with fail
           refine T.out.mono ?_
           rintro e w4 ⟨rfl, hc4, hb4⟩
           have HB4 := Hi (HB3.out.trans hb4)
           clear hb4 T
           go_wp2_with fail
           go_ret2
           exact ⟨Or.inl ⟨q + 2, n, hfit, HR.out, rfl, hc4.out.cast (by omega)⟩, HB4.out⟩
         · have HR := Hi (HS.out.trans (if_neg (fun hh => hfit hh.2.2.2)))
           have T := Hi (TF.out (q + 2) n (by omega) (by omega))
           clear h13 h10 PT13 PF13 PT10 PF10 TT TF HS
           go_wp2_with fail
           refine P1.out.mono ?_
           rintro e w2 ⟨rfl, hc2, hb2⟩
           have P2 := Hi (P2.out w2 (hc2.out.cast (by omega)))
           have HB2 := Hi (HB.out.trans hb2)
           clear hb2 P1
           go_wp2_with fail
           refine P2.out.mono ?_
           rintro e w3 ⟨rfl, hc3, hb3⟩
           have T := Hi (T.out w3 (hc3.out.cast (by omega)))
           have HB3 := Hi (HB2.out.trans hb3)
           clear hb3 P2
           go_wp2_with fail
           refine T.out.mono ?_
           rintro e w4 ⟨rfl, hc4, hb4⟩
           have HB4 := Hi (HB3.out.trans hb4)
           clear hb4 T
           go_wp2_with fail
           go_ret2
           exact ⟨Or.inr ⟨HR.out, rfl⟩, HB4.out⟩
       · have HR := Hi (HS.out.trans (if_neg (fun hh => h10 hh.2.2.1)))
         have P2 := Hi (PF10.out (q + 1) (by omega) h10)
         clear h13 h10 PT13 PF13 PT10 PF10 TT TF HS
         go_wp2_with fail
         refine P1.out.mono ?_
         rintro e w2 ⟨rfl, hc2, hb2⟩
         have P2 := Hi (P2.out w2 (hc2.out.cast (by omega)))
         have HB2 := Hi (HB.out.trans hb2)
         clear hb2 P1
         go_wp2_with fail
         refine P2.out.mono ?_
         rintro e w3 ⟨rfl, hc3, hb3⟩
         have HB3 := Hi (HB2.out.trans hb3)
         clear hb3 P2
         go_wp2_with fail
         go_ret2
         exact ⟨Or.inr ⟨HR.out, rfl⟩, HB3.out⟩
     · have HR := Hi (HS.out.trans (if_neg (fun hh => h13 hh.2.1)))
       have P1 := Hi (PF13.out q (by omega) h13 w1 HC.out)
       clear h13 PT13 PF13 PT10 PF10 TT TF HS
       go_wp2_with fail
       refine P1.out.mono ?_
       rintro e w2 ⟨rfl, hc2, hb2⟩
       have HB2 := Hi (HB.out.trans hb2)
       clear hb2 P1
       go_wp2_with fail
       go_ret2
       exact ⟨Or.inr ⟨HR.out, rfl⟩, HB2.out⟩
   · have HR := Hi (HS.out.trans (if_neg (fun hh => hbig hh.1)))
     have e1 : decide (65536 < (n : Int)) = true := by simp; omega
     clear hbig PT13 PF13 PT10 PF10 TT TF HS
     go_wp2_with fail
     go_ret2
     exact ⟨Or.inr ⟨HR.out, rfl⟩, HB.out⟩
 · have HR := Hi (scanL_none ha)
   clear ha
   go_wp2_with fail
   go_ret2
   exact ⟨Or.inr ⟨HR.out, rfl⟩, hb⟩
theorem Col.base {B B' g bu ba size : Nat} {l : List UInt8} {w : World} (h : Col B g bu ba size l w) (hB : B' ≤ B) : Col B' g bu ba size l w :=
 ⟨Nat.le_trans hB h.bg, Nat.le_trans hB h.bbu, Nat.le_trans hB h.bba, h.gu, h.ga, h.ua, h.row, h.used, h.all⟩
theorem scanLiteral_any (B c : Nat) (A : Option Addr) (l : List UInt8) (x : Int) (h1 : -9223372036854775808 ≤ x) (h2 : x ≤ 9223372036854775807) (hl : l.length ≤ 1000000) (w : World) (henv : Env w) (hA : ByAt B w A c l) :
 Calls Tryz.prog 178 #[.slice A l.length c, .int .i64 x] w fun e w' => SPost (scanL l x) w.heap.size e w' ∧ Below w.heap.size w w' := by
 have L := Hi (literalF_any w.heap.size c A l x h1 h2 (by omega) _ (fun w1 hb => henv.below ((YB w (.cells #[.slice A l.length c, .int .i64 x] 193)).trans hb)) (cur_new hA x))
 have HA := Hi hA.here
 clear hA henv h1 h2
 obtain ⟨o, ho⟩ : ∃ o, scanL l x = o := ⟨_, rfl⟩
 rw [ho]
 have HO := Hi ho
 clear ho
 go_enter Tryz.func178, Tryz.ntmps178
 go_wp2_with fail
 refine L.out.mono ?_
 rintro e w1 ⟨hq, hb⟩
 have hB := (YB w (.cells #[.slice A l.length c, .int .i64 x] 193)).trans hb
 unfold LPost at hq
 rcases hq with ⟨q, n, hqn, hs, rfl, hc⟩ | ⟨hn, rfl⟩
 · have e1 : ((l.take (q + n)).drop q) = (l.drop q).take n := by rw [List.drop_take]; congr 1; omega
   have hBy := (HA.out.below hB).cut (lo := q) (hi := q + n) (by omega) (by omega)
   rw [e1] at hBy
   have hlen : ((l.drop q).take n).length = n := by rw [List.length_take, List.length_drop]; omega
   have HR := Hi (show o = some ((l.drop q).take n, q + n) by rw [← HO.out, hs])
   have hnl : n ≤ 1000000 := by omega
   have c1 := hc.c1
   have hsz := hc.lt
   have HB := Hi hB
   have hbz := hB.size
   obtain ⟨P, hP⟩ : ∃ P, (l.drop q).take n = P := ⟨_, rfl⟩
   rw [hP] at hBy hlen HR
   generalize q + n = m at *
   have CO : ∀ W, Below w1.heap.size w1 W → Calls Tryz.prog 193 #[.int .i64 (n : Int)] W fun e w' =>
    ∃ g bu ba, e = .returned (.func (Fn.func 213) #[] #[.pointer (some ⟨bu, 0, none⟩), .pointer (some ⟨ba, 0, none⟩)]) ∧ Hid (Col w1.heap.size g bu ba n [] w') ∧ Below w1.heap.size w1 w' := fun W hW => by
    refine (collector_any n (by omega) W).mono ?_
    rintro e w' ⟨g, bu, ba, a1, a2, a3⟩
    exact ⟨g, bu, ba, a1, a2.base hW.size, YA hW a3⟩
   have PU : ∀ g bu ba W, Hid (Col w1.heap.size g bu ba n [] W) → Below w1.heap.size w1 W → Calls Tryz.prog 213 #[.slice (offA A c q) n (c - q), .pointer (some ⟨bu, 0, none⟩), .pointer (some ⟨ba, 0, none⟩)] W fun e w' =>
    e = .returned (.slice (some ⟨g, 0, none⟩) n n) ∧ Hid (w'.ownsRow w.heap.size 5 1 (.slice (some ⟨g, 0, none⟩) n n) n (YF encB P)) ∧ Below w1.heap.size w1 w' := fun g bu ba W hC hW => by
    refine (put_at w1.heap.size g bu ba n [] P _ (offA A c q) (c - q) n n hlen (by simp) (by omega) (by omega) W hC.out (hBy.grow hW)).mono ?_
    rintro e w' ⟨a1, a2, a3⟩
    refine ⟨a1, ?_, hW.trans a3⟩
    have := a2.out.own (by omega)
    rw [List.nil_append, hlen] at this
    exact Joins.ownsRow_le this hbz
   have CO := Hi CO
   have PU := Hi PU
   have HL := Hi hlen
   clear hBy hs hc hb hB L HA HO e1 hlen hP hbz
   go_wp2_with fail
   go_region_with (first
    | (go_at_call 193; refine (CO.out _ (by repeat (first | assumption | exact Below.refl _ _ | refine Below.drew ?_ ))).mono ?_; rintro e w3 ⟨g, bu, ba, rfl, hC3, hb3⟩; have c3 : w3.cell? ⟨w.heap.size, 1, none⟩ = some (.int .i64 (m : Int)) := (hb3.cell (p := ⟨w.heap.size, 1, none⟩) hsz).trans c1)
    | (go_at_call 213; refine (PU.out g bu ba _ (by first | exact hC3) (by repeat (first | assumption | exact Below.refl _ _ | refine Below.drew ?_ ))).mono ?_; rintro e w4 ⟨rfl, ho4, hb4⟩; have c4 : w4.cell? ⟨w.heap.size, 1, none⟩ = some (.int .i64 (m : Int)) := (hb4.cell (p := ⟨w.heap.size, 1, none⟩) hsz).trans c1))
   all_goals
    have HB4 := Hi (HB.out.trans (hb4.mono HB.out.size))
    clear hb4 hb3
    go_wp2_with fail
    refine bodyPost_ret (v := .tuple #[.slice (some ⟨g, 0, none⟩) n n, .int .i64 (m : Int), .bool true]) (by simp [results, Tryz.results178, go_sem]) rfl ⟨?_, HB4.out⟩
    exact Or.inl ⟨P, m, g, n, HR.out, by rw [HL.out], by rw [HL.out]; exact ho4.out⟩
 · have HR := Hi (show o = none by rw [← HO.out, hn])
   clear hn
   go_wp2_with fail
   refine bodyPost_ret (v := .tuple #[.slice none 0 0, .int .i64 0, .bool false]) (by simp [results, Tryz.results178, go_sem]) rfl ⟨?_, hB⟩
   exact Or.inr ⟨HR.out, rfl⟩
end Go.Proofs.YtpgfnlhfciacoaaGreatDoor
