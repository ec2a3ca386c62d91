/- The reference's ScanQuoted at whatever place; its ScanLiteral. -/
import Derived.Test.YtpklpfncohdlhaaDoorRef04C
import Derived.Test.YtpklpfncohdlhaaDoorLitS
import Derived.Test.YtpklpfncohdlhaaDoorRefNum
import Derived.Test.YtpklpfncohdlhaaDoorAnnMath
namespace Go.Proofs.YtpklpfncohdlhaaDoor
open Go.RowKit
open Go.Lib hiding intOf

set_option maxRecDepth 100000 in
set_option maxHeartbeats 1000000 in
theorem refScanQ_no (B c : Nat) (A : Option Addr) (l : List UInt8) (x : Int) (h1 : -9223372036854775808 ≤ x) (h2 : x ≤ 9223372036854775807) (hx : x < 0 ∨ l[x.toNat]? ≠ some 34) (_hl : l.length ≤ 1000000) (w : World) (hA : ByAt B w A c l) :
    Calls Tryd.prog 34 #[.slice A l.length c, .int .i64 x] w fun e w' => e = .returned (.tuple #[.slice none 0 0, .int .i64 0, .bool false]) ∧ w = w' := by
  by_cases h0 : x < 0
  · have d1 : decide (x < 0) = true := by simp; omega
    clear hx hA
    go_enter Tryd.func34, Tryd.ntmps34
    go_wp2_with fail
    exact bodyPost_ret (v := .tuple #[.slice none 0 0, .int .i64 0, .bool false]) (by simp [results, Tryd.results34, go_sem]) rfl ⟨rfl, rfl⟩
  · obtain ⟨k, rfl⟩ : ∃ k : Nat, x = k := ⟨x.toNat, by omega⟩
    have d1 : decide ((k : Int) < 0) = false := by simp
    have hx' : l[k]? ≠ some 34 := by
      rcases hx with h | h
      · omega
      · exact h
    clear hx h0
    by_cases hlt : k < l.length
    · have d2 : decide (l.length ≤ k) = false := by simp; omega
      have hb : l[k]? = some l[k] := List.getElem?_eq_getElem hlt
      generalize l[k] = y at hb
      obtain ⟨b, off, rfl, _, hc⟩ := at_byte hA hb
      obtain ⟨f1, f2⟩ := ne_34 (x := y) (by rintro rfl; exact hx' hb)
      clear hx' hb hA
      generalize y.toNat = yn at *
      go_enter Tryd.func34, Tryd.ntmps34
      go_wp2_with fail
      exact bodyPost_ret (v := .tuple #[.slice none 0 0, .int .i64 0, .bool false]) (by simp [results, Tryd.results34, go_sem]) rfl ⟨rfl, rfl⟩
    · have d2 : decide (l.length ≤ k) = true := by simp; omega
      clear hx' hA
      go_enter Tryd.func34, Tryd.ntmps34
      go_wp2_with fail
      exact bodyPost_ret (v := .tuple #[.slice none 0 0, .int .i64 0, .bool false]) (by simp [results, Tryd.results34, go_sem]) rfl ⟨rfl, rfl⟩

theorem refScanQuoted_any (B c : Nat) (A : Option Addr) (l : List UInt8) (x : Int) (h1 : -9223372036854775808 ≤ x) (h2 : x ≤ 9223372036854775807) (hl : l.length ≤ 1000000) (w : World) (hA : ByAt B w A c l) :
    Calls Tryd.prog 34 #[.slice A l.length c, .int .i64 x] w fun e w' => RPost (scanQ l x) e w' ∧ Below w.heap.size w w' := by
  by_cases hin : 0 ≤ x ∧ l[x.toNat]? = some 34
  · obtain ⟨k, rfl⟩ : ∃ k : Nat, x = k := ⟨x.toNat, by omega⟩
    exact refScanQ_mark B c A l k hin.2 hl w hA
  · have hx : x < 0 ∨ l[x.toNat]? ≠ some 34 := by
      by_cases h : x < 0
      · exact Or.inl h
      · exact Or.inr fun e => hin ⟨by omega, e⟩
    rw [scanQ_no hx]
    refine (refScanQ_no B c A l x h1 h2 hx hl w hA).mono ?_
    rintro e w' ⟨he, rfl⟩
    exact ⟨Or.inr ⟨rfl, he⟩, Below.refl _ _⟩

/-! ### The literal form by the reference's way -/
theorem dig_125 : isDig 125 = false := by decide
/-- No closing bracket from a to p. -/
def No125 (l : List UInt8) (a p : Nat) : Prop := ∀ j : Nat, a ≤ j → j < p → l[j]? ≠ some 125
theorem No125.next {l : List UInt8} {a p : Nat} (h : No125 l a p) (hp : l[p]? ≠ some 125) : No125 l a (p + 1) := fun j h1 h2 => by
  rcases Nat.lt_or_ge j p with hlt | hge
  · exact h j h1 hlt
  · obtain rfl : j = p := by omega
    exact hp
theorem ann_shape {l : List UInt8} {k n j : Nat} (h : annO (l.drop k) = some (n, j)) : ∃ D, dgL (l.drop (k + 1)) = D ∧ numOf D = some n ∧ l[k + 1 + D.length]? = some 125 ∧ j = D.length + 2 := by
  unfold annO at h
  rw [List.drop_drop] at h
  split at h
  · split at h
    · rename_i m hm
      split at h
      · rename_i h125
        simp only [Option.some.injEq, Prod.mk.injEq] at h
        obtain ⟨rfl, rfl⟩ := h
        rw [List.getElem?_drop] at h125
        exact ⟨_, rfl, hm, h125, rfl⟩
      · cases h
    · cases h
  · cases h
theorem dgL_at {l : List UInt8} {a : Nat} {i : Nat} (hi : i < (dgL (l.drop a)).length) : ∃ y, l[a + i]? = some y ∧ isDig y = true := by
  have hpre : dgL (l.drop a) <+: l.drop a := List.takeWhile_prefix _
  obtain ⟨t, ht⟩ := hpre
  refine ⟨(dgL (l.drop a))[i], ?_, ?_⟩
  · have e : (l.drop a)[i]? = (dgL (l.drop a))[i]? := by
      conv => lhs; rw [← ht]
      rw [List.getElem?_append_left hi]
    rw [← List.getElem?_drop, e, List.getElem?_eq_getElem hi]
  · have : (dgL (l.drop a)).all isDig = true := List.all_takeWhile
    exact List.all_eq_true.1 this _ (List.getElem_mem hi)
theorem ann_first {l : List UInt8} {k p : Nat} (hk : l[k]? = some 123) (hp : l[p]? = some 125) (hkp : k + 1 ≤ p) (hno : No125 l (k + 1) p) : annO (l.drop k) = match numOf ((l.take p).drop (k + 1)) with | some n => some (n, p - k + 1) | none => none := by
  obtain ⟨hpl, hpe⟩ := List.getElem?_eq_some_iff.1 hp
  have hsplit : l.drop (k + 1) = (l.take p).drop (k + 1) ++ 125 :: l.drop (p + 1) := by
    conv => lhs; rw [← List.take_append_drop p l, List.drop_eq_getElem_cons hpl, hpe, List.drop_append_of_le_length (by rw [List.length_take]; omega)]
  have hDl : ((l.take p).drop (k + 1)).length = p - (k + 1) := cut_len (by omega)
  cases ho : numOf ((l.take p).drop (k + 1)) with
  | some n =>
    obtain ⟨h1, h2⟩ := numOf_some ho
    have e2 : dgL (l.drop (k + 1)) = (l.take p).drop (k + 1) := by
      rw [hsplit]
      exact takeWhile_front _ _ _ (fun c hc => by rw [← h2] at hc; exact dec_dig n c hc) dig_125
    unfold annO
    rw [if_pos (by rw [drop_at]; exact hk), List.drop_drop, e2, ho]
    simp only
    rw [if_pos (by rw [hsplit, List.getElem?_append_right (Nat.le_refl _), Nat.sub_self]; rfl), hDl]
    congr 2
    omega
  | none =>
    cases ha : annO (l.drop k) with
    | none => rfl
    | some t =>
      obtain ⟨n, j⟩ := t
      obtain ⟨D, hD, hn, h125, _⟩ := ann_shape ha
      have hpe2 : p = k + 1 + D.length := by
        rcases Nat.lt_trichotomy p (k + 1 + D.length) with hlt | heq | hgt
        · obtain ⟨y, h1, h2⟩ := dgL_at (l := l) (a := k + 1) (i := p - (k + 1)) (by rw [hD]; omega)
          rw [show k + 1 + (p - (k + 1)) = p by omega, hp] at h1
          obtain rfl := Option.some.inj h1
          exact absurd h2 (by decide)
        · exact heq
        · exact absurd h125 (hno _ (by omega) hgt)
      have hDD : (l.take p).drop (k + 1) = D := by
        have hpre : dgL (l.drop (k + 1)) <+: l.drop (k + 1) := List.takeWhile_prefix _
        obtain ⟨t, ht⟩ := hpre
        have e : (l.drop (k + 1)).take D.length = D := by rw [← ht, hD, List.take_left']; rfl
        rw [List.drop_take, show p - (k + 1) = D.length by omega]
        exact e
      rw [hDD, hn] at ho
      cases ho
theorem ann_none {l : List UInt8} {k p : Nat} (hno : No125 l (k + 1) p) (hend : l.length ≤ p ∨ k + 12 < p) : annO (l.drop k) = none := by
  cases ha : annO (l.drop k) with
  | none => rfl
  | some t =>
    obtain ⟨n, j⟩ := t
    obtain ⟨D, hD, hn, h125, _⟩ := ann_shape ha
    obtain ⟨h1, h2⟩ := numOf_some hn
    have hl := dec_len h1
    rw [h2] at hl
    have hlt := (List.getElem?_eq_some_iff.1 h125).1
    rcases Nat.lt_or_ge (k + 1 + D.length) p with h | h
    · exact absurd h125 (hno _ (by omega) h)
    · rcases hend with he | he
      · omega
      · omega

theorem refL_none {l : List UInt8} {k : Nat} (h : annO (l.drop k) = none) : scanL l (k : Int) = none := by
  apply scanL_none
  unfold annX
  rw [if_pos (by omega)]
  exact h
theorem refL_some {l : List UInt8} {k p n : Nat} (hkp : k + 1 ≤ p) (h : annO (l.drop k) = some (n, p - k + 1)) : scanL l (k : Int) = if n ≤ 65536 ∧ l[p + 1]? = some 13 ∧ l[p + 2]? = some 10 ∧ p + 3 + n ≤ l.length then some ((l.drop (p + 3)).take n, p + 3 + n) else none := by
  have e : annX l (k : Int) = some (n, p - k + 1) := by unfold annX; rw [if_pos (by omega)]; exact h
  rw [scanL_some e, show k + (p - k + 1) = p + 1 by omega]

set_option maxRecDepth 100000 in
set_option maxHeartbeats 4000000 in
theorem refScanL_mark (B c : Nat) (A : Option Addr) (l : List UInt8) (k : Nat) (hk : l[k]? = some 123) (hl : l.length ≤ 1000000) (w : World) (hA : ByAt B w A c l) :
    Calls Tryd.prog 35 #[.slice A l.length c, .int .i64 (k : Int)] w fun e w' => RPost (scanL l (k : Int)) e w' ∧ Below w.heap.size w w' := by
  obtain ⟨i0, hi, hz0, hz1, hz2⟩ := info_parts infoByte
  have hkl : k < l.length := (List.getElem?_eq_some_iff.1 hk).1
  obtain ⟨b, off, rfl, _, hc0⟩ := at_byte hA hk
  have hc0' : w.cell? ⟨b, off + k, none⟩ = some (.int .u8 123) := hc0
  have HA := Lib.hid hA.here
  have hle := hA.le
  have HK := Lib.hid hk
  clear hA hk hc0
  obtain ⟨o, ho⟩ : ∃ o, scanL l (k : Int) = o := ⟨_, rfl⟩
  have HO := Lib.hid ho
  rw [ho]
  clear ho
  have d1 : decide ((k : Int) < 0) = false := by simp
  have d2 : decide (l.length ≤ k) = false := by simp; omega
  have hse := fun x lo hi mx W => sliceAt_eq x lo hi mx W
  go_enter Tryd.func35, Tryd.ntmps35
  go_wp2_with fail
  clear hc0'
  go_loop [7] (fun i => ∃ p : Nat, p ≤ l.length ∧ k + 1 ≤ p ∧ p ≤ k + 13 ∧ i = .int .i64 (p : Int) ∧ Hid (No125 l (k + 1) p)) (fun i => (l.length : Nat) - (intOf i).toNat)
  case atStart => exact ⟨k + 1, by omega, by omega, by omega, rfl, fun j h1 h2 => by omega⟩
  case round =>
    obtain ⟨p, hp, hkp, hp13, rfl, hno⟩ := hrel
    by_cases hlt : p < l.length
    · have hx : l[p]? = some l[p] := List.getElem?_eq_getElem hlt
      generalize l[p] = x at hx
      obtain ⟨b', off', he, hbw, hc⟩ := at_byte HA.out hx
      injection he with he
      injection he with he1 he2 _
      subst he1
      subst he2
      by_cases h125 : x = 125
      · subst h125
        have hc' : w.cell? ⟨b, off + p, none⟩ = some (.int .u8 125) := hc
        have HAN := Lib.hid (ann_first HK.out hx hkp hno.out)
        have NM := refNumber_any ⟨((l.take p).drop (k + 1)).toArray⟩ (by rw [mk_size, cut_len (by omega)]; omega) w
        rw [show (ByteArray.mk ((l.take p).drop (k + 1)).toArray).data.toList = (l.take p).drop (k + 1) by simp] at NM
        have hcv := convS _ w _ (c - (k + 1)) (p - (k + 1)) _ (HA.out.cut (lo := k + 1) (hi := p) hkp hp) (cut_len hp)
        have hsl : ∀ W : World, (Instr.slice 22 (.slice (some ⟨b, off, none⟩) l.length c) (some (.int .i64 ((k : Int) + 1))) (some (.int .i64 (p : Int))) none).run Tryd.prog W = .ok (.slice (offA (some ⟨b, off, none⟩) c (k + 1)) (p - (k + 1)) (c - (k + 1))) W := fun W => by
          have := slice_lh (some ⟨b, off, none⟩) l.length c (k + 1) p hkp (by omega) W
          rwa [Int.natCast_add] at this
        obtain ⟨D, hDe⟩ : ∃ D, (l.take p).drop (k + 1) = D := ⟨_, rfl⟩
        rw [hDe] at NM hcv HAN
        clear hDe hc hx
        cases hn : numOf D with
        | none =>
          rw [hn] at NM HAN
          have HR := Lib.hid (show o = none from HO.out.symm.trans (refL_none HAN.out))
          have NM := Lib.hid NM
          clear hn
          go_wp2_with fail
          refine NM.out.mono ?_
          rintro e w1 ⟨rfl, rfl⟩
          go_wp2_with fail
          refine bodyPost_ret (v := .tuple #[.slice none 0 0, .int .i64 0, .bool false]) (by simp [results, Tryd.results35, go_sem]) rfl ⟨?_, Below.refl _ _⟩
          exact Or.inr ⟨HR.out, rfl⟩
        | some n =>
          have hnle := num_le hn
          rw [hn] at NM HAN
          rw [show ((some n).getD 0 : Nat) = n from rfl, show (some n).isSome = true from rfl] at NM
          have HSL := Lib.hid (HO.out.symm.trans (refL_some hkp HAN.out))
          have NM := Lib.hid NM
          clear hn HAN
          by_cases hbig : n ≤ 65536
          · have e1 : decide (65536 < (n : Int)) = false := by simp; omega
            by_cases hfrom : p + 3 ≤ l.length
            · have e2 : decide ((l.length : Int) < (p : Int) + 3) = false := by simp; omega
              have hy : l[p + 1]? = some (l[p + 1]'(by omega)) := List.getElem?_eq_getElem _
              generalize l[p + 1]'(by omega) = y at hy
              obtain ⟨b', off', he, _, hcy⟩ := at_byte HA.out hy
              injection he with he
              injection he with he1 he2 _
              subst he1
              subst he2
              have hz : l[p + 2]? = some (l[p + 2]'(by omega)) := List.getElem?_eq_getElem _
              generalize l[p + 2]'(by omega) = z at hz
              obtain ⟨b', off', he, _, hcz⟩ := at_byte HA.out hz
              injection he with he
              injection he with he1 he2 _
              subst he1
              subst he2
              by_cases h13 : y = 13
              · subst h13
                have hcy' : w.cell? ⟨b, off + (p + 1), none⟩ = some (.int .u8 13) := hcy
                by_cases h10 : z = 10
                · subst h10
                  have hcz' : w.cell? ⟨b, off + (p + 2), none⟩ = some (.int .u8 10) := hcz
                  by_cases hfit : p + 3 + n ≤ l.length
                  · have HR := Lib.hid (HSL.out.trans (if_pos ⟨hbig, hy, hz, hfit⟩))
                    clear hcy hcz hy hz HSL
                    obtain ⟨P, hP⟩ : ∃ P, (l.drop (p + 3)).take n = P := ⟨_, rfl⟩
                    have hPl : P.length = n := by rw [← hP, List.length_take, List.length_drop]; omega
                    have hcutP : (l.take (p + 3 + n)).drop (p + 3) = P := by rw [← hP, List.drop_take]; congr 1; omega
                    have hBP := HA.out.cut (lo := p + 3) (hi := p + 3 + n) (by omega) hfit
                    rw [hcutP] at hBP
                    rw [hP] at HR
                    have hsl2 : ∀ W : World, (Instr.slice 22 (.slice (some ⟨b, off, none⟩) l.length c) (some (.int .i64 ((p : Int) + 3))) (some (.int .i64 ((p : Int) + 3 + (n : Int)))) none).run Tryd.prog W = .ok (.slice (offA (some ⟨b, off, none⟩) c (p + 3)) P.length (c - (p + 3))) W := fun W => by
                      have := slice_lh (some ⟨b, off, none⟩) l.length c (p + 3) (p + 3 + n) (by omega) (by omega) W
                      rw [hPl]
                      rw [Int.natCast_add, Int.natCast_add, Nat.add_sub_cancel_left] at this
                      exact this
                    have e3 : ¬ ((l.length : Int) - ((p : Int) + 3) < (n : Int)) := by omega
                    have HBP := Lib.hid (hBP.grow (below_al w (.cells #[] 5)))
                    have HOE := Lib.hid (own_empty (sz := 1) (heap_alloc_new w (.cells #[] 5)) (Nat.le_refl _))
                    have H63 := Lib.hid (show 0 + P.length ≤ maxLen by rw [hPl]; unfold maxLen; omega)
                    have HBY := Lib.hid (show (0 + P.length) * 1 ≤ 140737488355328 by rw [hPl]; omega)
                    have HSZ := Lib.hid (below_al w (.cells #[] 5)).size
                    have HCAST := Lib.hid (show ((p + 3 + n : Nat) : Int) = (p : Int) + 3 + (n : Int) by omega)
                    clear hP hPl hcutP hBP
                    go_wp2_with fail
                    refine NM.out.mono ?_
                    rintro e w1 ⟨rfl, rfl⟩
                    go_wp2_with (at_builtin; refine wpList_append_sl _ rfl _ _ 22 rfl w.heap.size 5 i0 _ 1 Tryd.underlying22 hi hz0 hz1 hz2 rfl (by decide) _ 0 [] rfl HOE.out (offA (some ⟨b, off, none⟩) c (p + 3)) P (c - (p + 3)) rfl encB_len HBP.out.sl (one_flatB P) H63.out HBY.out HSZ.out ?_; intro v2 w2 hown2 hg2)
                    rw [Nat.zero_add, List.nil_append] at hown2
                    obtain ⟨A2, c2, rfl⟩ := own_any hown2
                    have HO2 := Lib.hid (ByAt.of_own hown2)
                    have HB2 := Lib.hid ((below_al w (.cells #[] 5)).grown hg2 HSZ.out (fun kk hkk => (HOE.out.lt kk hkk).1))
                    clear hown2 hg2
                    go_wp2_with fail
                    refine bodyPost_ret (v := .tuple #[.slice A2 P.length c2, .int .i64 ((p : Int) + 3 + (n : Int)), .bool true]) (by simp [results, Tryd.results35, go_sem]) rfl ⟨?_, HB2.out⟩
                    exact Or.inl ⟨P, p + 3 + n, A2, c2, HR.out, by rw [HCAST.out], HO2.out⟩
                  · have HR := Lib.hid (HSL.out.trans (if_neg (fun hh => hfit hh.2.2.2)))
                    have e3 : (l.length : Int) - ((p : Int) + 3) < (n : Int) := by omega
                    clear hcy hcz hy hz HSL
                    go_wp2_with fail
                    refine NM.out.mono ?_
                    rintro e w1 ⟨rfl, rfl⟩
                    go_wp2_with fail
                    refine bodyPost_ret (v := .tuple #[.slice none 0 0, .int .i64 0, .bool false]) (by simp [results, Tryd.results35, go_sem]) rfl ⟨?_, Below.refl _ _⟩
                    exact Or.inr ⟨HR.out, rfl⟩
                · have HR := Lib.hid (HSL.out.trans (if_neg (fun hh => h10 (Option.some.inj (hz.symm.trans hh.2.2.1)))))
                  obtain ⟨f1, f2⟩ := ne_byte (x := z) 10 h10
                  have f3 : ((z.toNat : Int) != 10) = true := f2
                  clear hcy hy hz HSL h10 f1 f2
                  generalize z.toNat = zn at *
                  go_wp2_with fail
                  refine NM.out.mono ?_
                  rintro e w1 ⟨rfl, rfl⟩
                  go_wp2_with fail
                  refine bodyPost_ret (v := .tuple #[.slice none 0 0, .int .i64 0, .bool false]) (by simp [results, Tryd.results35, go_sem]) rfl ⟨?_, Below.refl _ _⟩
                  exact Or.inr ⟨HR.out, rfl⟩
              · have HR := Lib.hid (HSL.out.trans (if_neg (fun hh => h13 (Option.some.inj (hy.symm.trans hh.2.1)))))
                obtain ⟨f1, f2⟩ := ne_byte (x := y) 13 h13
                have f3 : ((y.toNat : Int) != 13) = true := f2
                clear hcz hy hz HSL h13 f1 f2
                generalize y.toNat = yn at *
                go_wp2_with fail
                refine NM.out.mono ?_
                rintro e w1 ⟨rfl, rfl⟩
                go_wp2_with fail
                refine bodyPost_ret (v := .tuple #[.slice none 0 0, .int .i64 0, .bool false]) (by simp [results, Tryd.results35, go_sem]) rfl ⟨?_, Below.refl _ _⟩
                exact Or.inr ⟨HR.out, rfl⟩
            · have e2 : decide ((l.length : Int) < (p : Int) + 3) = true := by simp; omega
              have HR := Lib.hid (HSL.out.trans (if_neg (fun hh => by have := (List.getElem?_eq_some_iff.1 hh.2.2.1).1; omega)))
              clear HSL
              go_wp2_with fail
              refine NM.out.mono ?_
              rintro e w1 ⟨rfl, rfl⟩
              go_wp2_with fail
              refine bodyPost_ret (v := .tuple #[.slice none 0 0, .int .i64 0, .bool false]) (by simp [results, Tryd.results35, go_sem]) rfl ⟨?_, Below.refl _ _⟩
              exact Or.inr ⟨HR.out, rfl⟩
          · have e1 : decide (65536 < (n : Int)) = true := by simp; omega
            have HR := Lib.hid (HSL.out.trans (if_neg (fun hh => hbig hh.1)))
            clear hbig HSL
            go_wp2_with fail
            refine NM.out.mono ?_
            rintro e w1 ⟨rfl, rfl⟩
            go_wp2_with fail
            refine bodyPost_ret (v := .tuple #[.slice none 0 0, .int .i64 0, .bool false]) (by simp [results, Tryd.results35, go_sem]) rfl ⟨?_, Below.refl _ _⟩
            exact Or.inr ⟨HR.out, rfl⟩
      · have hne : l[p]? ≠ some 125 := by rw [hx]; intro e; exact h125 (Option.some.inj e)
        obtain ⟨f1, f2⟩ := ne_byte (x := x) 125 h125
        have f3 : ((x.toNat : Int) != 125) = true := f2
        by_cases h12 : p ≤ k + 12
        · have HN := Lib.hid (hno.out.next hne)
          have g1 : (p : Int) - (k : Int) ≤ 12 := by omega
          clear hx h125 f1 f2 hne
          generalize x.toNat = xn at *
          go_wp2_with fail
          go_round
          case rel => exact ⟨p + 1, by omega, by omega, by omega, by go_num, HN.out⟩
          case measure => simp [intOf]; omega
        · have g1 : ¬ (p : Int) - (k : Int) ≤ 12 := by omega
          have HR := Lib.hid (show o = none from HO.out.symm.trans (refL_none (ann_none hno.out (Or.inr (by omega)))))
          clear hx h125 f1 f2 hne
          generalize x.toNat = xn at *
          go_wp2_with fail
          refine bodyPost_ret (v := .tuple #[.slice none 0 0, .int .i64 0, .bool false]) (by simp [results, Tryd.results35, go_sem]) rfl ⟨?_, Below.refl _ _⟩
          exact Or.inr ⟨HR.out, rfl⟩
    · obtain rfl : p = l.length := by omega
      have HR := Lib.hid (show o = none from HO.out.symm.trans (refL_none (ann_none hno.out (Or.inl (Nat.le_refl _)))))
      go_wp2_with fail
      refine bodyPost_ret (v := .tuple #[.slice none 0 0, .int .i64 0, .bool false]) (by simp [results, Tryd.results35, go_sem]) rfl ⟨?_, Below.refl _ _⟩
      exact Or.inr ⟨HR.out, rfl⟩

set_option maxRecDepth 100000 in
set_option maxHeartbeats 1000000 in
theorem refScanL_no (B c : Nat) (A : Option Addr) (l : List UInt8) (x : Int) (h1 : -9223372036854775808 ≤ x) (h2 : x ≤ 9223372036854775807) (hx : x < 0 ∨ l[x.toNat]? ≠ some 123) (_hl : l.length ≤ 1000000) (w : World) (hA : ByAt B w A c l) :
    Calls Tryd.prog 35 #[.slice A l.length c, .int .i64 x] w fun e w' => e = .returned (.tuple #[.slice none 0 0, .int .i64 0, .bool false]) ∧ w = w' := by
  by_cases h0 : x < 0
  · have d1 : decide (x < 0) = true := by simp; omega
    clear hx hA
    go_enter Tryd.func35, Tryd.ntmps35
    go_wp2_with fail
    exact bodyPost_ret (v := .tuple #[.slice none 0 0, .int .i64 0, .bool false]) (by simp [results, Tryd.results35, go_sem]) rfl ⟨rfl, rfl⟩
  · obtain ⟨k, rfl⟩ : ∃ k : Nat, x = k := ⟨x.toNat, by omega⟩
    have d1 : decide ((k : Int) < 0) = false := by simp
    have hx' : l[k]? ≠ some 123 := by
      rcases hx with h | h
      · omega
      · exact h
    clear hx h0
    by_cases hlt : k < l.length
    · have d2 : decide (l.length ≤ k) = false := by simp; omega
      have hb : l[k]? = some l[k] := List.getElem?_eq_getElem hlt
      generalize l[k] = y at hb
      obtain ⟨b, off, rfl, _, hc⟩ := at_byte hA hb
      obtain ⟨f1, f2⟩ := ne_byte (x := y) 123 (by rintro rfl; exact hx' hb)
      have f3 : ((y.toNat : Int) != 123) = true := f2
      clear hx' hb hA f1 f2
      generalize y.toNat = yn at *
      go_enter Tryd.func35, Tryd.ntmps35
      go_wp2_with fail
      exact bodyPost_ret (v := .tuple #[.slice none 0 0, .int .i64 0, .bool false]) (by simp [results, Tryd.results35, go_sem]) rfl ⟨rfl, rfl⟩
    · have d2 : decide (l.length ≤ k) = true := by simp; omega
      clear hx' hA
      go_enter Tryd.func35, Tryd.ntmps35
      go_wp2_with fail
      exact bodyPost_ret (v := .tuple #[.slice none 0 0, .int .i64 0, .bool false]) (by simp [results, Tryd.results35, go_sem]) rfl ⟨rfl, rfl⟩

theorem refScanLiteral_any (B c : Nat) (A : Option Addr) (l : List UInt8) (x : Int) (h1 : -9223372036854775808 ≤ x) (h2 : x ≤ 9223372036854775807) (hl : l.length ≤ 1000000) (w : World) (hA : ByAt B w A c l) :
    Calls Tryd.prog 35 #[.slice A l.length c, .int .i64 x] w fun e w' => RPost (scanL l x) e w' ∧ Below w.heap.size w w' := by
  by_cases hin : 0 ≤ x ∧ l[x.toNat]? = some 123
  · obtain ⟨k, rfl⟩ : ∃ k : Nat, x = k := ⟨x.toNat, by omega⟩
    exact refScanL_mark B c A l k hin.2 hl w hA
  · have hx : x < 0 ∨ l[x.toNat]? ≠ some 123 := by
      by_cases h : x < 0
      · exact Or.inl h
      · exact Or.inr fun e => hin ⟨by omega, e⟩
    have hn : scanL l x = none := scanL_none (by
      unfold annX
      rcases hx with h | h
      · rw [if_neg (by omega)]
      · by_cases h0 : 0 ≤ x
        · rw [if_pos h0]; exact annO_no h
        · rw [if_neg h0])
    rw [hn]
    refine (refScanL_no B c A l x h1 h2 hx hl w hA).mono ?_
    rintro e w' ⟨he, rfl⟩
    exact ⟨Or.inr ⟨rfl, he⟩, Below.refl _ _⟩
end Go.Proofs.YtpklpfncohdlhaaDoor
