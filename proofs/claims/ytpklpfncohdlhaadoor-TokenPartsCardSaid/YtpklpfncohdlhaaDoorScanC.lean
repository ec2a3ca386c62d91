/- quote: the scanner's character. -/
import Derived.Test.YtpklpfncohdlhaaDoorCurT
import Derived.Test.YtpklpfncohdlhaaDoorSMath
import Derived.Test.YtpklpfncohdlhaaDoorCont
namespace Go.Proofs.YtpklpfncohdlhaaDoor
open Go.RowKit

theorem sp_text {n : Nat} (h : spN n = true) : textN n = true := by
  unfold spN at h
  unfold textN
  simp at h ⊢
  omega

set_option maxRecDepth 100000 in
set_option maxHeartbeats 1000000 in
theorem char_A2 (bs c : Nat) (A : Option Addr) (l : List UInt8) (k : Nat) (d : UInt8) (h1 : l[k]? = some 92) (h2 : l[k + 1]? = some d) (hl : l.length ≤ 1000000000) (w : World) (h : Cur bs A c l (k : Int) w) :
    Calls Tryd.prog 69 #[.pointer (some ⟨bs, 0, none⟩)] w fun e w' => e = .returned (.bool (spN d.toNat)) ∧ Hid (Cur bs A c l ((k + 2 : Nat) : Int) w') ∧ Below bs w w' := by
  have hk : k + 1 < l.length := (List.getElem?_eq_some_iff.1 h2).1
  have P := Lib.hid (pass_t bs c A l k 92 h1 hl w h)
  have T := Lib.hid (fun w1 (hc : Cur bs A c l ((k + 1 : Nat) : Int) w1) => take_t bs c A l (k + 1) 1 (by omega) hl w1 hc)
  have hbs := h.lt
  have H2 := Lib.hid h2
  have hn : d.toNat ≤ 255 := by have := d.toNat_lt; omega
  have TX := fun w1 => text_any d.toNat w1 hn
  have SP := fun w1 => special_any d.toNat hn w1
  clear h h1 h2 hk
  cases hs : spN d.toNat with
  | true =>
    rw [sp_text hs] at TX
    rw [hs] at SP
    have TX := Lib.hid TX
    have SP := Lib.hid SP
    clear hs
    go_enter Tryd.func69, Tryd.ntmps69
    go_wp2_with fail
    refine P.out.mono ?_
    rintro e w1 ⟨rfl, hc1, hb1⟩
    have T := Lib.hid (T.out w1 (hc1.out.cast (by omega)))
    go_wp2_with fail
    refine T.out.mono ?_
    rintro e w2 ⟨rfl, hc2, hb2⟩
    have hB2 := hb1.trans hb2
    obtain ⟨b, off, he, hbw, hc⟩ := hc2.out.byte H2.out
    rw [he]
    have HE := Lib.hid he
    clear he hc1 hb1 hb2 T P
    go_wp2_with fail
    refine (TX.out _).mono ?_
    rintro e w3 ⟨rfl, h3⟩
    have hc' := (h3.cell (p := ⟨b, off, none⟩) hbw).trans hc
    have H3 := Lib.hid (hc2.out.grow h3)
    have hB3 := hB2.trans (h3.mono (Nat.le_of_lt hc2.out.lt))
    clear hc h3 hc2 hB2
    go_wp2_with fail
    refine (SP.out _).mono ?_
    rintro e w4 ⟨rfl, rfl⟩
    go_wp2_with fail
    go_ret
    exact ⟨rfl, H3.out.cast (by omega), hB3⟩
  | false =>
    rw [hs] at SP
    have SP := Lib.hid SP
    clear hs
    cases ht : textN d.toNat with
    | true =>
      rw [ht] at TX
      have TX := Lib.hid TX
      clear ht
      go_enter Tryd.func69, Tryd.ntmps69
      go_wp2_with fail
      refine P.out.mono ?_
      rintro e w1 ⟨rfl, hc1, hb1⟩
      have T := Lib.hid (T.out w1 (hc1.out.cast (by omega)))
      go_wp2_with fail
      refine T.out.mono ?_
      rintro e w2 ⟨rfl, hc2, hb2⟩
      have hB2 := hb1.trans hb2
      obtain ⟨b, off, he, hbw, hc⟩ := hc2.out.byte H2.out
      rw [he]
      have HE := Lib.hid he
      clear he hc1 hb1 hb2 T P
      go_wp2_with fail
      refine (TX.out _).mono ?_
      rintro e w3 ⟨rfl, h3⟩
      have hc' := (h3.cell (p := ⟨b, off, none⟩) hbw).trans hc
      have H3 := Lib.hid (hc2.out.grow h3)
      have hB3 := hB2.trans (h3.mono (Nat.le_of_lt hc2.out.lt))
      clear hc h3 hc2 hB2
      go_wp2_with fail
      refine (SP.out _).mono ?_
      rintro e w4 ⟨rfl, rfl⟩
      go_wp2_with fail
      go_ret
      exact ⟨rfl, H3.out.cast (by omega), hB3⟩
    | false =>
      rw [ht] at TX
      have TX := Lib.hid TX
      clear ht
      go_enter Tryd.func69, Tryd.ntmps69
      go_wp2_with fail
      refine P.out.mono ?_
      rintro e w1 ⟨rfl, hc1, hb1⟩
      have T := Lib.hid (T.out w1 (hc1.out.cast (by omega)))
      go_wp2_with fail
      refine T.out.mono ?_
      rintro e w2 ⟨rfl, hc2, hb2⟩
      have hB2 := hb1.trans hb2
      obtain ⟨b, off, he, hbw, hc⟩ := hc2.out.byte H2.out
      rw [he]
      have HE := Lib.hid he
      clear he hc1 hb1 hb2 T P
      go_wp2_with fail
      refine (TX.out _).mono ?_
      rintro e w3 ⟨rfl, h3⟩
      have H3 := Lib.hid (hc2.out.grow h3)
      have hB3 := hB2.trans (h3.mono (Nat.le_of_lt hc2.out.lt))
      clear hc h3 hc2 hB2
      go_wp2_with fail
      go_ret
      exact ⟨rfl, H3.out.cast (by omega), hB3⟩

set_option maxRecDepth 100000 in
set_option maxHeartbeats 1000000 in
theorem char_A1 (bs c : Nat) (A : Option Addr) (l : List UInt8) (k : Nat) (h1 : l[k]? = some 92) (h2 : k + 1 = l.length) (hl : l.length ≤ 1000000000) (w : World) (h : Cur bs A c l (k : Int) w) :
    Calls Tryd.prog 69 #[.pointer (some ⟨bs, 0, none⟩)] w fun e w' => e = .returned (.bool false) ∧ Below bs w w' := by
  have P := Lib.hid (pass_t bs c A l k 92 h1 hl w h)
  have T := Lib.hid (fun w1 (hc : Cur bs A c l ((k + 1 : Nat) : Int) w1) => take_f bs c A l (k + 1) 1 (by omega) (by omega) hl w1 hc)
  clear h h1 h2
  go_enter Tryd.func69, Tryd.ntmps69
  go_wp2_with fail
  refine P.out.mono ?_
  rintro e w1 ⟨rfl, hc1, hb1⟩
  have T := Lib.hid (T.out w1 (hc1.out.cast (by omega)))
  go_wp2_with fail
  refine T.out.mono ?_
  rintro e w2 ⟨rfl, hc2, hb2⟩
  have hB2 := hb1.trans hb2
  clear hb1 hb2 T P
  go_wp2_with fail
  go_ret
  exact ⟨rfl, hB2⟩

set_option maxRecDepth 100000 in
set_option maxHeartbeats 1000000 in
theorem char_0 (bs c : Nat) (A : Option Addr) (l : List UInt8) (hl : l.length ≤ 1000000000) (w : World) (h : Cur bs A c l (l.length : Int) w) :
    Calls Tryd.prog 69 #[.pointer (some ⟨bs, 0, none⟩)] w fun e w' => e = .returned (.bool false) ∧ Below bs w w' := by
  have P := Lib.hid (pass_f bs c A l l.length (Nat.le_refl _) 92 (by simp) hl w h)
  have T := Lib.hid (fun w1 (hc : Cur bs A c l (l.length : Int) w1) => take_f bs c A l l.length 1 (by omega) (by omega) hl w1 hc)
  clear h
  go_enter Tryd.func69, Tryd.ntmps69
  go_wp2_with fail
  refine P.out.mono ?_
  rintro e w1 ⟨rfl, hc1, hb1⟩
  have T := Lib.hid (T.out w1 hc1.out)
  go_wp2_with fail
  refine T.out.mono ?_
  rintro e w2 ⟨rfl, hc2, hb2⟩
  have hB2 := hb1.trans hb2
  clear hb1 hb2 T P
  go_wp2_with fail
  go_ret
  exact ⟨rfl, hB2⟩

set_option maxRecDepth 100000 in
set_option maxHeartbeats 1000000 in
theorem char_B (bs c : Nat) (A : Option Addr) (l : List UInt8) (k : Nat) (d : UInt8) (h1 : l[k]? = some d) (h2 : d ≠ 92) (hl : l.length ≤ 1000000000) (w : World) (h : Cur bs A c l (k : Int) w) :
    Calls Tryd.prog 69 #[.pointer (some ⟨bs, 0, none⟩)] w fun e w' => e = .returned (.bool (textN d.toNat)) ∧ Hid (Cur bs A c l ((k + 1 : Nat) : Int) w') ∧ Below bs w w' := by
  have hk : k < l.length := (List.getElem?_eq_some_iff.1 h1).1
  have P := Lib.hid (pass_f bs c A l k (by omega) 92 (by rw [h1]; intro e; exact h2 (Option.some.inj e)) hl w h)
  have T := Lib.hid (fun w1 (hc : Cur bs A c l (k : Int) w1) => take_t bs c A l k 1 (by omega) hl w1 hc)
  have hbs := h.lt
  have H2 := Lib.hid h1
  have hn : d.toNat ≤ 255 := by have := d.toNat_lt; omega
  have TX := fun w1 => text_any d.toNat w1 hn
  clear h h1 h2 hk
  cases ht : textN d.toNat with
  | true =>
    rw [ht] at TX
    have TX := Lib.hid TX
    clear ht
    go_enter Tryd.func69, Tryd.ntmps69
    go_wp2_with fail
    refine P.out.mono ?_
    rintro e w1 ⟨rfl, hc1, hb1⟩
    have T := Lib.hid (T.out w1 hc1.out)
    go_wp2_with fail
    refine T.out.mono ?_
    rintro e w2 ⟨rfl, hc2, hb2⟩
    have hB2 := hb1.trans hb2
    obtain ⟨b, off, he, hbw, hc⟩ := hc2.out.byte H2.out
    rw [he]
    have HE := Lib.hid he
    clear he hc1 hb1 hb2 T P
    go_wp2_with fail
    refine (TX.out _).mono ?_
    rintro e w3 ⟨rfl, h3⟩
    have H3 := Lib.hid (hc2.out.grow h3)
    have hB3 := hB2.trans (h3.mono (Nat.le_of_lt hc2.out.lt))
    clear hc h3 hc2 hB2
    go_wp2_with fail
    go_ret
    exact ⟨rfl, H3.out.cast (by omega), hB3⟩
  | false =>
    rw [ht] at TX
    have TX := Lib.hid TX
    clear ht
    go_enter Tryd.func69, Tryd.ntmps69
    go_wp2_with fail
    refine P.out.mono ?_
    rintro e w1 ⟨rfl, hc1, hb1⟩
    have T := Lib.hid (T.out w1 hc1.out)
    go_wp2_with fail
    refine T.out.mono ?_
    rintro e w2 ⟨rfl, hc2, hb2⟩
    have hB2 := hb1.trans hb2
    obtain ⟨b, off, he, hbw, hc⟩ := hc2.out.byte H2.out
    rw [he]
    have HE := Lib.hid he
    clear he hc1 hb1 hb2 T P
    go_wp2_with fail
    refine (TX.out _).mono ?_
    rintro e w3 ⟨rfl, h3⟩
    have H3 := Lib.hid (hc2.out.grow h3)
    have hB3 := hB2.trans (h3.mono (Nat.le_of_lt hc2.out.lt))
    clear hc h3 hc2 hB2
    go_wp2_with fail
    go_ret
    exact ⟨rfl, H3.out.cast (by omega), hB3⟩

/-- A character follows. -/
theorem char_t (bs c : Nat) (A : Option Addr) (l : List UInt8) (k n : Nat) (hn : chN (l.drop k) = n) (h0 : 0 < n) (hl : l.length ≤ 1000000000) (w : World) (h : Cur bs A c l (k : Int) w) :
    Calls Tryd.prog 69 #[.pointer (some ⟨bs, 0, none⟩)] w fun e w' => e = .returned (.bool true) ∧ Hid (Cur bs A c l ((k + n : Nat) : Int) w') ∧ Below bs w w' := by
  match hd : l.drop k, hn with
  | [], hn => subst hn; simp [chN] at h0
  | [d], hn =>
    have hk : l[k]? = some d := by rw [← Nat.add_zero k, ← List.getElem?_drop, hd]; rfl
    rw [chN] at hn
    by_cases h92 : d = 92
    · rw [if_pos h92] at hn; omega
    · rw [if_neg h92] at hn
      by_cases ht : textN d.toNat = true
      · rw [if_pos ht] at hn
        subst hn
        have := char_B bs c A l k d hk h92 hl w h
        rwa [ht] at this
      · rw [if_neg ht] at hn; omega
  | d :: e :: r, hn =>
    have hk : l[k]? = some d := by rw [← Nat.add_zero k, ← List.getElem?_drop, hd]; rfl
    have hk1 : l[k + 1]? = some e := by rw [← List.getElem?_drop, hd]; rfl
    rw [chN] at hn
    by_cases h92 : d = 92
    · rw [if_pos h92] at hn
      subst h92
      by_cases hs : spN e.toNat = true
      · rw [if_pos hs] at hn
        subst hn
        have := char_A2 bs c A l k e hk hk1 hl w h
        rwa [hs] at this
      · rw [if_neg hs] at hn; omega
    · rw [if_neg h92] at hn
      by_cases ht : textN d.toNat = true
      · rw [if_pos ht] at hn
        subst hn
        have := char_B bs c A l k d hk h92 hl w h
        rwa [ht] at this
      · rw [if_neg ht] at hn; omega
/-- None follows. -/
theorem char_f (bs c : Nat) (A : Option Addr) (l : List UInt8) (k : Nat) (hk0 : k ≤ l.length) (hn : chN (l.drop k) = 0) (hl : l.length ≤ 1000000000) (w : World) (h : Cur bs A c l (k : Int) w) :
    Calls Tryd.prog 69 #[.pointer (some ⟨bs, 0, none⟩)] w fun e w' => e = .returned (.bool false) ∧ Below bs w w' := by
  match hd : l.drop k, hn with
  | [], _ =>
    have hkl : k = l.length := by have := congrArg List.length hd; rw [List.length_drop] at this; simp at this; omega
    subst hkl
    exact char_0 bs c A l hl w h
  | [d], hn =>
    have hk : l[k]? = some d := by rw [← Nat.add_zero k, ← List.getElem?_drop, hd]; rfl
    have hkl : k + 1 = l.length := by have := congrArg List.length hd; rw [List.length_drop] at this; simp at this; omega
    rw [chN] at hn
    by_cases h92 : d = 92
    · subst h92
      exact char_A1 bs c A l k hk hkl hl w h
    · rw [if_neg h92] at hn
      by_cases ht : textN d.toNat = true
      · rw [if_pos ht] at hn; cases hn
      · have := char_B bs c A l k d hk h92 hl w h
        rw [Bool.eq_false_iff.2 ht] at this
        exact this.mono fun _ _ h => ⟨h.1, h.2.2⟩
  | d :: e :: r, hn =>
    have hk : l[k]? = some d := by rw [← Nat.add_zero k, ← List.getElem?_drop, hd]; rfl
    have hk1 : l[k + 1]? = some e := by rw [← List.getElem?_drop, hd]; rfl
    rw [chN] at hn
    by_cases h92 : d = 92
    · rw [if_pos h92] at hn
      subst h92
      by_cases hs : spN e.toNat = true
      · rw [if_pos hs] at hn; cases hn
      · have := char_A2 bs c A l k e hk hk1 hl w h
        rw [Bool.eq_false_iff.2 hs] at this
        exact this.mono fun _ _ h => ⟨h.1, h.2.2⟩
    · rw [if_neg h92] at hn
      by_cases ht : textN d.toNat = true
      · rw [if_pos ht] at hn; cases hn
      · have := char_B bs c A l k d hk h92 hl w h
        rw [Bool.eq_false_iff.2 ht] at this
        exact this.mono fun _ _ h => ⟨h.1, h.2.2⟩
end Go.Proofs.YtpklpfncohdlhaaDoor
