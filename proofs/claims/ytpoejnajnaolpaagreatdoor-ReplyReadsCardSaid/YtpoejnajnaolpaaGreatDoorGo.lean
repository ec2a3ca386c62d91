/- The reference's Number. -/
import Derived.Test.YtpoejnajnaolpaaGreatDoorGb
import Derived.Test.YtpoejnajnaolpaaGreatDoorGl
import Derived.Test.YtpoejnajnaolpaaGreatDoorGn
import Derived.Test.YtpoejnajnaolpaaGreatDoorGa
import Derived.Test.YtpoejnajnaolpaaGreatDoorGc
namespace Go.Proofs.YtpoejnajnaolpaaGreatDoor
open Go.RowKit
open Go.Lib hiding intOf

theorem val_snoc (s : ByteArray) (k : Nat) (h : k < s.size) : valF 0 (s.data.toList.take (k + 1)) = valF 0 (s.data.toList.take k) * 10 + (s[k].toNat - 48) := by
  rw [take_snocB s k h, valF_append]
  simp only [valF, List.foldl_cons, List.foldl_nil]
theorem dig_snoc (s : ByteArray) (k : Nat) (h : k < s.size) (ha : (s.data.toList.take k).all isDig = true) (h1 : 48 ≤ s[k].toNat) (h2 : s[k].toNat ≤ 57) : (s.data.toList.take (k + 1)).all isDig = true := by
  rw [take_snocB s k h, List.all_append, ha]
  simp [isDig, h1, h2]
theorem dig_no (s : ByteArray) (k : Nat) (h : k < s.size) (h1 : s[k].toNat < 48 ∨ 57 < s[k].toNat) : s.data.toList.all isDig = false := by
  rw [List.all_eq_false]
  exact ⟨s[k], by simp [ByteArray.getElem_eq_getElem_data], by simp [isDig]; omega⟩
theorem val_bound (s : ByteArray) (k : Nat) (ha : (s.data.toList.take k).all isDig = true) (hk : k ≤ 10) : valF 0 (s.data.toList.take k) < 10000000000 := by
  have := valF_lt _ 0 0 ha (by omega)
  have hl : (s.data.toList.take k).length ≤ 10 := Nat.le_trans (List.length_take_le _ _) hk
  have hp : 10 ^ (0 + (s.data.toList.take k).length) ≤ 10 ^ 10 := Nat.pow_le_pow_right (by omega) (by omega)
  omega

theorem val_int {k : IntKind} {a b : Int} (h : a = b) : Value.int k a = .int k b := by rw [h]

set_option maxRecDepth 100000 in
set_option maxHeartbeats 400000 in
theorem refNumber_any (s : ByteArray) (hs : s.size ≤ 1000000000) (w : World) :
    Calls Tryz.prog 43 #[.string s] w fun e w' => e = .returned (.tuple #[.int .u32 ((numOf s.data.toList).getD 0 : Nat), .bool (numOf s.data.toList).isSome]) ∧ w = w' := by
  by_cases hl : s.size ≤ 10
  · go_enter Tryz.func43, Tryz.ntmps43
    go_wp2_with fail
    go_loop [4, 5] (fun n i => ∃ k : Nat, k ≤ s.size ∧ i = .int .i64 k ∧ n = .int .u64 (valF 0 (s.data.toList.take k) : Nat) ∧ (s.data.toList.take k).all isDig = true) (fun _ i => s.size - (intOf i).toNat)
    case atStart => exact ⟨0, Nat.zero_le _, rfl, rfl, rfl⟩
    case round =>
      obtain ⟨k, hk, rfl, rfl, ha⟩ := hrel
      have HA := Lib.hid ha
      have hvb := val_bound s k ha (by omega)
      clear ha
      by_cases hlt : k < s.size
      · have HV := Lib.hid (val_snoc s k hlt)
        have hc := s[k].toNat_lt
        generalize hx : valF 0 (s.data.toList.take k) = x at *
        have HX := Lib.hid hx
        clear hx
        by_cases h1 : 48 ≤ s[k].toNat
        · by_cases h2 : s[k].toNat ≤ 57
          · have HD := Lib.hid (dig_snoc s k hlt HA.out h1 h2)
            go_wp2_with fail
            go_round
            case rel => exact ⟨k + 1, by omega, by go_num, val_int (by rw [HV.out]; omega), HD.out⟩
            case measure => simp [intOf]; omega
          · have HN := Lib.hid (numOf_nodig (dig_no s k hlt (Or.inr (by omega))))
            go_wp2_with fail
            go_ret2
            exact ⟨by rw [HN.out]; rfl, rfl⟩
        · have HN := Lib.hid (numOf_nodig (dig_no s k hlt (Or.inl (by omega))))
          go_wp2_with fail
          go_ret2
          exact ⟨by rw [HN.out]; rfl, rfl⟩
      · obtain rfl : k = s.size := by omega
        rw [take_all] at HA hvb
        rw [take_all]
        by_cases hbig : valF 0 s.data.toList ≤ 4294967295
        · have D := Lib.hid (refDecimal_any (valF 0 s.data.toList) hbig w)
          by_cases hd : decDigits (valF 0 s.data.toList) = s.data.toList
          · have HN := Lib.hid (numOf_same hbig hd)
            have ht : (decDigits (valF 0 s.data.toList) == s.toList) = true := by rw [btl]; simpa using hd
            clear hd
            generalize decDigits (valF 0 s.data.toList) = l at *
            generalize valF 0 s.data.toList = x at *
            go_wp2_with fail
            refine D.out.mono ?_
            rintro e w1 ⟨rfl, rfl⟩
            go_wp2_with fail
            go_ret2
            exact ⟨by rw [HN.out]; rfl, rfl⟩
          · have HN := Lib.hid (numOf_other hd)
            have ht : (decDigits (valF 0 s.data.toList) == s.toList) = false := by rw [btl]; simpa using hd
            clear hd
            generalize decDigits (valF 0 s.data.toList) = l at *
            generalize valF 0 s.data.toList = x at *
            go_wp2_with fail
            refine D.out.mono ?_
            rintro e w1 ⟨rfl, rfl⟩
            go_wp2_with fail
            go_ret2
            exact ⟨by rw [HN.out]; rfl, rfl⟩
        · have HN := Lib.hid (numOf_big (l := s.data.toList) (by omega))
          generalize valF 0 s.data.toList = x at *
          go_wp2_with fail
          go_ret2
          exact ⟨by rw [HN.out]; rfl, rfl⟩
  · have HN := Lib.hid (numOf_long (l := s.data.toList) (by simp; omega))
    go_enter Tryz.func43, Tryz.ntmps43
    go_wp2_with fail
    go_ret2
    exact ⟨by rw [HN.out]; rfl, rfl⟩
end Go.Proofs.YtpoejnajnaolpaaGreatDoor

namespace Go.Proofs.YtpoejnajnaolpaaGreatDoor
open Go.RowKit
open Go.Lib hiding intOf

/-! ### The literal form by the reference's way -/
/-- What ScanLiteral answers: the bytes are its own. -/
def RLPost (o : Option (List UInt8 × Nat)) (n0 : Nat) (e : Ending) (w' : World) : Prop :=
  (∃ (P : List UInt8) (m : Nat) (A' : Option Addr) (c' : Nat), o = some (P, m) ∧ e = .returned (.tuple #[.slice A' P.length c', .int .i64 (m : Int), .bool true]) ∧ w'.ownsRow n0 5 1 (.slice A' P.length c') P.length (flatL encB P)) ∨
  (o = none ∧ e = .returned (.tuple #[.slice none 0 0, .int .i64 0, .bool false]))
theorem dig_125 : isDig 125 = false := by decide
/-- No closing bracket from a to p. -/
def No125 (l : List UInt8) (a p : Nat) : Prop := ∀ j : Nat, a ≤ j → j < p → l[j]? ≠ some 125
theorem No125.next {l : List UInt8} {a p : Nat} (h : No125 l a p) (hp : l[p]? ≠ some 125) : No125 l a (p + 1) := fun j h1 h2 => by
  rcases Nat.lt_or_ge j p with hlt | hge
  · exact h j h1 hlt
  · obtain rfl : j = p := by omega
    exact hp
theorem ann_shape {l : List UInt8} {k n j : Nat} (h : annO (l.drop k) = some (n, j)) : ∃ D, dgL (l.drop (k + 1)) = D ∧ numOf D = some n ∧ l[k + 1 + D.length]? = some 125 ∧ j = D.length + 2 := by
  unfold annO at h
  rw [List.drop_drop] at h
  split at h
  · split at h
    · rename_i m hm
      split at h
      · rename_i h125
        simp only [Option.some.injEq, Prod.mk.injEq] at h
        obtain ⟨rfl, rfl⟩ := h
        rw [List.getElem?_drop] at h125
        exact ⟨_, rfl, hm, h125, rfl⟩
      · cases h
    · cases h
  · cases h
theorem dgL_at {l : List UInt8} {a : Nat} {i : Nat} (hi : i < (dgL (l.drop a)).length) : ∃ y, l[a + i]? = some y ∧ isDig y = true := by
  have hpre : dgL (l.drop a) <+: l.drop a := List.takeWhile_prefix _
  obtain ⟨t, ht⟩ := hpre
  refine ⟨(dgL (l.drop a))[i], ?_, ?_⟩
  · have e : (l.drop a)[i]? = (dgL (l.drop a))[i]? := by
      conv => lhs; rw [← ht]
      rw [List.getElem?_append_left hi]
    rw [← List.getElem?_drop, e, List.getElem?_eq_getElem hi]
  · have : (dgL (l.drop a)).all isDig = true := List.all_takeWhile
    exact List.all_eq_true.1 this _ (List.getElem_mem hi)
theorem ann_first {l : List UInt8} {k p : Nat} (hk : l[k]? = some 123) (hp : l[p]? = some 125) (hkp : k + 1 ≤ p) (hno : No125 l (k + 1) p) : annO (l.drop k) = match numOf ((l.take p).drop (k + 1)) with | some n => some (n, p - k + 1) | none => none := by
  obtain ⟨hpl, hpe⟩ := List.getElem?_eq_some_iff.1 hp
  have hsplit : l.drop (k + 1) = (l.take p).drop (k + 1) ++ 125 :: l.drop (p + 1) := by
    conv => lhs; rw [← List.take_append_drop p l, List.drop_eq_getElem_cons hpl, hpe, List.drop_append_of_le_length (by rw [List.length_take]; omega)]
  have hDl : ((l.take p).drop (k + 1)).length = p - (k + 1) := cut_len (by omega)
  cases ho : numOf ((l.take p).drop (k + 1)) with
  | some n =>
    obtain ⟨h1, h2⟩ := numOf_some ho
    have e2 : dgL (l.drop (k + 1)) = (l.take p).drop (k + 1) := by
      rw [hsplit]
      exact takeWhile_front _ _ _ (fun c hc => by rw [← h2] at hc; exact dec_dig n c hc) dig_125
    unfold annO
    rw [if_pos (by rw [drop_at]; exact hk), List.drop_drop, e2, ho]
    simp only
    rw [if_pos (by rw [hsplit, List.getElem?_append_right (Nat.le_refl _), Nat.sub_self]; rfl), hDl]
    congr 2
    omega
  | none =>
    cases ha : annO (l.drop k) with
    | none => rfl
    | some t =>
      obtain ⟨n, j⟩ := t
      obtain ⟨D, hD, hn, h125, _⟩ := ann_shape ha
      have hpe2 : p = k + 1 + D.length := by
        rcases Nat.lt_trichotomy p (k + 1 + D.length) with hlt | heq | hgt
        · obtain ⟨y, h1, h2⟩ := dgL_at (l := l) (a := k + 1) (i := p - (k + 1)) (by rw [hD]; omega)
          rw [show k + 1 + (p - (k + 1)) = p by omega, hp] at h1
          obtain rfl := Option.some.inj h1
          exact absurd h2 (by decide)
        · exact heq
        · exact absurd h125 (hno _ (by omega) hgt)
      have hDD : (l.take p).drop (k + 1) = D := by
        have hpre : dgL (l.drop (k + 1)) <+: l.drop (k + 1) := List.takeWhile_prefix _
        obtain ⟨t, ht⟩ := hpre
        have e : (l.drop (k + 1)).take D.length = D := by rw [← ht, hD, List.take_left']; rfl
        rw [List.drop_take, show p - (k + 1) = D.length by omega]
        exact e
      rw [hDD, hn] at ho
      cases ho
theorem ann_none {l : List UInt8} {k p : Nat} (hno : No125 l (k + 1) p) (hend : l.length ≤ p ∨ k + 12 < p) : annO (l.drop k) = none := by
  cases ha : annO (l.drop k) with
  | none => rfl
  | some t =>
    obtain ⟨n, j⟩ := t
    obtain ⟨D, hD, hn, h125, _⟩ := ann_shape ha
    obtain ⟨h1, h2⟩ := numOf_some hn
    have hl := dec_len h1
    rw [h2] at hl
    have hlt := (List.getElem?_eq_some_iff.1 h125).1
    rcases Nat.lt_or_ge (k + 1 + D.length) p with h | h
    · exact absurd h125 (hno _ (by omega) h)
    · rcases hend with he | he
      · omega
      · omega

theorem refL_none {l : List UInt8} {k : Nat} (h : annO (l.drop k) = none) : scanL l (k : Int) = none := by
  apply scanL_none
  unfold annX
  rw [if_pos (by omega)]
  exact h
theorem refL_some {l : List UInt8} {k p n : Nat} (hkp : k + 1 ≤ p) (h : annO (l.drop k) = some (n, p - k + 1)) : scanL l (k : Int) = if n ≤ 65536 ∧ l[p + 1]? = some 13 ∧ l[p + 2]? = some 10 ∧ p + 3 + n ≤ l.length then some ((l.drop (p + 3)).take n, p + 3 + n) else none := by
  have e : annX l (k : Int) = some (n, p - k + 1) := by unfold annX; rw [if_pos (by omega)]; exact h
  rw [scanL_some e, show k + (p - k + 1) = p + 1 by omega]

set_option maxRecDepth 100000 in
set_option maxHeartbeats 4000000 in
theorem refScanL_mark (B c : Nat) (A : Option Addr) (l : List UInt8) (k : Nat) (hk : l[k]? = some 123) (hl : l.length ≤ 1000000) (w : World) (hA : ByAt B w A c l) :
    Calls Tryz.prog 64 #[.slice A l.length c, .int .i64 (k : Int)] w fun e w' => RLPost (scanL l (k : Int)) w.heap.size e w' ∧ Below w.heap.size w w' := by
  obtain ⟨i0, hi, hz0, hz1, hz2⟩ := info_parts infoByte
  have hkl : k < l.length := (List.getElem?_eq_some_iff.1 hk).1
  obtain ⟨b, off, rfl, _, hc0⟩ := at_byte hA hk
  have hc0' : w.cell? ⟨b, off + k, none⟩ = some (.int .u8 123) := hc0
  have HA := Lib.hid hA.here
  have hle := hA.le
  have HK := Lib.hid hk
  clear hA hk hc0
  obtain ⟨o, ho⟩ : ∃ o, scanL l (k : Int) = o := ⟨_, rfl⟩
  have HO := Lib.hid ho
  rw [ho]
  clear ho
  have d1 : decide ((k : Int) < 0) = false := by simp
  have d2 : decide (l.length ≤ k) = false := by simp; omega
  have hse := fun x lo hi mx W => sliceAt_eq x lo hi mx W
  go_enter Tryz.func64, Tryz.ntmps64
  go_wp2_with fail
  clear hc0'
  go_loop [7] (fun i => ∃ p : Nat, p ≤ l.length ∧ k + 1 ≤ p ∧ p ≤ k + 13 ∧ i = .int .i64 (p : Int) ∧ Hid (No125 l (k + 1) p)) (fun i => (l.length : Nat) - (intOf i).toNat)
  case atStart => exact ⟨k + 1, by omega, by omega, by omega, rfl, fun j h1 h2 => by omega⟩
  case round =>
    obtain ⟨p, hp, hkp, hp13, rfl, hno⟩ := hrel
    by_cases hlt : p < l.length
    · have hx : l[p]? = some l[p] := List.getElem?_eq_getElem hlt
      generalize l[p] = x at hx
      obtain ⟨b', off', he, hbw, hc⟩ := at_byte HA.out hx
      injection he with he
      injection he with he1 he2 _
      subst he1
      subst he2
      by_cases h125 : x = 125
      · subst h125
        have hc' : w.cell? ⟨b, off + p, none⟩ = some (.int .u8 125) := hc
        have HAN := Lib.hid (ann_first HK.out hx hkp hno.out)
        have NM := refNumber_any ⟨((l.take p).drop (k + 1)).toArray⟩ (by rw [mk_size, cut_len (by omega)]; omega) w
        rw [show (ByteArray.mk ((l.take p).drop (k + 1)).toArray).data.toList = (l.take p).drop (k + 1) by simp] at NM
        have hcv := convS _ w _ (c - (k + 1)) (p - (k + 1)) _ (HA.out.cut (lo := k + 1) (hi := p) hkp hp) (cut_len hp)
        have hsl : ∀ W : World, (Instr.slice 22 (.slice (some ⟨b, off, none⟩) l.length c) (some (.int .i64 ((k : Int) + 1))) (some (.int .i64 (p : Int))) none).run Tryz.prog W = .ok (.slice (offA (some ⟨b, off, none⟩) c (k + 1)) (p - (k + 1)) (c - (k + 1))) W := fun W => by
          have := slice_lh (some ⟨b, off, none⟩) l.length c (k + 1) p hkp (by omega) W
          rwa [Int.natCast_add] at this
        obtain ⟨D, hDe⟩ : ∃ D, (l.take p).drop (k + 1) = D := ⟨_, rfl⟩
        rw [hDe] at NM hcv HAN
        clear hDe hc hx
        cases hn : numOf D with
        | none =>
          rw [hn] at NM HAN
          have HR := Lib.hid (show o = none from HO.out.symm.trans (refL_none HAN.out))
          have NM := Lib.hid NM
          clear hn
          go_wp2_with fail
          refine NM.out.mono ?_
          rintro e w1 ⟨rfl, rfl⟩
          go_wp2_with fail
          refine bodyPost_ret (v := .tuple #[.slice none 0 0, .int .i64 0, .bool false]) (by simp [results, Tryz.results64, go_sem]) rfl ⟨?_, Below.refl _ _⟩
          exact Or.inr ⟨HR.out, rfl⟩
        | some n =>
          have hnle := num_le hn
          rw [hn] at NM HAN
          rw [show ((some n).getD 0 : Nat) = n from rfl, show (some n).isSome = true from rfl] at NM
          have HSL := Lib.hid (HO.out.symm.trans (refL_some hkp HAN.out))
          have NM := Lib.hid NM
          clear hn HAN
          by_cases hbig : n ≤ 65536
          · have e1 : decide (65536 < (n : Int)) = false := by simp; omega
            by_cases hfrom : p + 3 ≤ l.length
            · have e2 : decide ((l.length : Int) < (p : Int) + 3) = false := by simp; omega
              have hy : l[p + 1]? = some (l[p + 1]'(by omega)) := List.getElem?_eq_getElem _
              generalize l[p + 1]'(by omega) = y at hy
              obtain ⟨b', off', he, _, hcy⟩ := at_byte HA.out hy
              injection he with he
              injection he with he1 he2 _
              subst he1
              subst he2
              have hz : l[p + 2]? = some (l[p + 2]'(by omega)) := List.getElem?_eq_getElem _
              generalize l[p + 2]'(by omega) = z at hz
              obtain ⟨b', off', he, _, hcz⟩ := at_byte HA.out hz
              injection he with he
              injection he with he1 he2 _
              subst he1
              subst he2
              by_cases h13 : y = 13
              · subst h13
                have hcy' : w.cell? ⟨b, off + (p + 1), none⟩ = some (.int .u8 13) := hcy
                by_cases h10 : z = 10
                · subst h10
                  have hcz' : w.cell? ⟨b, off + (p + 2), none⟩ = some (.int .u8 10) := hcz
                  by_cases hfit : p + 3 + n ≤ l.length
                  · have HR := Lib.hid (HSL.out.trans (if_pos ⟨hbig, hy, hz, hfit⟩))
                    clear hcy hcz hy hz HSL
                    obtain ⟨P, hP⟩ : ∃ P, (l.drop (p + 3)).take n = P := ⟨_, rfl⟩
                    have hPl : P.length = n := by rw [← hP, List.length_take, List.length_drop]; omega
                    have hcutP : (l.take (p + 3 + n)).drop (p + 3) = P := by rw [← hP, List.drop_take]; congr 1; omega
                    have hBP := HA.out.cut (lo := p + 3) (hi := p + 3 + n) (by omega) hfit
                    rw [hcutP] at hBP
                    rw [hP] at HR
                    have hsl2 : ∀ W : World, (Instr.slice 22 (.slice (some ⟨b, off, none⟩) l.length c) (some (.int .i64 ((p : Int) + 3))) (some (.int .i64 ((p : Int) + 3 + (n : Int)))) none).run Tryz.prog W = .ok (.slice (offA (some ⟨b, off, none⟩) c (p + 3)) P.length (c - (p + 3))) W := fun W => by
                      have := slice_lh (some ⟨b, off, none⟩) l.length c (p + 3) (p + 3 + n) (by omega) (by omega) W
                      rw [hPl]
                      rw [Int.natCast_add, Int.natCast_add, Nat.add_sub_cancel_left] at this
                      exact this
                    have e3 : ¬ ((l.length : Int) - ((p : Int) + 3) < (n : Int)) := by omega
                    have HBP := Lib.hid (hBP.grow (below_al w (.cells #[] 5)))
                    have HOE := Lib.hid (own_empty (sz := 1) (heap_alloc_new w (.cells #[] 5)) (Nat.le_refl _))
                    have H63 := Lib.hid (show 0 + P.length ≤ maxLen by rw [hPl]; unfold maxLen; omega)
                    have HBY := Lib.hid (show (0 + P.length) * 1 ≤ 140737488355328 by rw [hPl]; omega)
                    have HSZ := Lib.hid (below_al w (.cells #[] 5)).size
                    have HCAST := Lib.hid (show ((p + 3 + n : Nat) : Int) = (p : Int) + 3 + (n : Int) by omega)
                    clear hP hPl hcutP hBP
                    go_wp2_with fail
                    refine NM.out.mono ?_
                    rintro e w1 ⟨rfl, rfl⟩
                    go_wp2_with (at_builtin; refine wpList_append_sl _ rfl _ _ 22 rfl w.heap.size 5 i0 _ 1 Tryz.underlying22 hi hz0 hz1 hz2 rfl (by decide) _ 0 [] rfl HOE.out (offA (some ⟨b, off, none⟩) c (p + 3)) P (c - (p + 3)) rfl encB_len HBP.out.sl (one_flatB P) H63.out HBY.out HSZ.out ?_; intro v2 w2 hown2 hg2)
                    rw [Nat.zero_add, List.nil_append] at hown2
                    obtain ⟨A2, c2, rfl⟩ := own_any hown2
                    have HO2 := Lib.hid hown2
                    have HB2 := Lib.hid ((below_al w (.cells #[] 5)).grown hg2 HSZ.out (fun kk hkk => (HOE.out.lt kk hkk).1))
                    clear hown2 hg2
                    go_wp2_with fail
                    refine bodyPost_ret (v := .tuple #[.slice A2 P.length c2, .int .i64 ((p : Int) + 3 + (n : Int)), .bool true]) (by simp [results, Tryz.results64, go_sem]) rfl ⟨?_, HB2.out⟩
                    exact Or.inl ⟨P, p + 3 + n, A2, c2, HR.out, by rw [HCAST.out], HO2.out⟩
                  · have HR := Lib.hid (HSL.out.trans (if_neg (fun hh => hfit hh.2.2.2)))
                    have e3 : (l.length : Int) - ((p : Int) + 3) < (n : Int) := by omega
                    clear hcy hcz hy hz HSL
                    go_wp2_with fail
                    refine NM.out.mono ?_
                    rintro e w1 ⟨rfl, rfl⟩
                    go_wp2_with fail
                    refine bodyPost_ret (v := .tuple #[.slice none 0 0, .int .i64 0, .bool false]) (by simp [results, Tryz.results64, go_sem]) rfl ⟨?_, Below.refl _ _⟩
                    exact Or.inr ⟨HR.out, rfl⟩
                · have HR := Lib.hid (HSL.out.trans (if_neg (fun hh => h10 (Option.some.inj (hz.symm.trans hh.2.2.1)))))
                  obtain ⟨f1, f2⟩ := ne_byte (x := z) 10 h10
                  have f3 : ((z.toNat : Int) != 10) = true := f2
                  clear hcy hy hz HSL h10 f1 f2
                  generalize z.toNat = zn at *
                  go_wp2_with fail
                  refine NM.out.mono ?_
                  rintro e w1 ⟨rfl, rfl⟩
                  go_wp2_with fail
                  refine bodyPost_ret (v := .tuple #[.slice none 0 0, .int .i64 0, .bool false]) (by simp [results, Tryz.results64, go_sem]) rfl ⟨?_, Below.refl _ _⟩
                  exact Or.inr ⟨HR.out, rfl⟩
              · have HR := Lib.hid (HSL.out.trans (if_neg (fun hh => h13 (Option.some.inj (hy.symm.trans hh.2.1)))))
                obtain ⟨f1, f2⟩ := ne_byte (x := y) 13 h13
                have f3 : ((y.toNat : Int) != 13) = true := f2
                clear hcz hy hz HSL h13 f1 f2
                generalize y.toNat = yn at *
                go_wp2_with fail
                refine NM.out.mono ?_
                rintro e w1 ⟨rfl, rfl⟩
                go_wp2_with fail
                refine bodyPost_ret (v := .tuple #[.slice none 0 0, .int .i64 0, .bool false]) (by simp [results, Tryz.results64, go_sem]) rfl ⟨?_, Below.refl _ _⟩
                exact Or.inr ⟨HR.out, rfl⟩
            · have e2 : decide ((l.length : Int) < (p : Int) + 3) = true := by simp; omega
              have HR := Lib.hid (HSL.out.trans (if_neg (fun hh => by have := (List.getElem?_eq_some_iff.1 hh.2.2.1).1; omega)))
              clear HSL
              go_wp2_with fail
              refine NM.out.mono ?_
              rintro e w1 ⟨rfl, rfl⟩
              go_wp2_with fail
              refine bodyPost_ret (v := .tuple #[.slice none 0 0, .int .i64 0, .bool false]) (by simp [results, Tryz.results64, go_sem]) rfl ⟨?_, Below.refl _ _⟩
              exact Or.inr ⟨HR.out, rfl⟩
          · have e1 : decide (65536 < (n : Int)) = true := by simp; omega
            have HR := Lib.hid (HSL.out.trans (if_neg (fun hh => hbig hh.1)))
            clear hbig HSL
            go_wp2_with fail
            refine NM.out.mono ?_
            rintro e w1 ⟨rfl, rfl⟩
            go_wp2_with fail
            refine bodyPost_ret (v := .tuple #[.slice none 0 0, .int .i64 0, .bool false]) (by simp [results, Tryz.results64, go_sem]) rfl ⟨?_, Below.refl _ _⟩
            exact Or.inr ⟨HR.out, rfl⟩
      · have hne : l[p]? ≠ some 125 := by rw [hx]; intro e; exact h125 (Option.some.inj e)
        obtain ⟨f1, f2⟩ := ne_byte (x := x) 125 h125
        have f3 : ((x.toNat : Int) != 125) = true := f2
        by_cases h12 : p ≤ k + 12
        · have HN := Lib.hid (hno.out.next hne)
          have g1 : (p : Int) - (k : Int) ≤ 12 := by omega
          clear hx h125 f1 f2 hne
          generalize x.toNat = xn at *
          go_wp2_with fail
          go_round
          case rel => exact ⟨p + 1, by omega, by omega, by omega, by go_num, HN.out⟩
          case measure => simp [intOf]; omega
        · have g1 : ¬ (p : Int) - (k : Int) ≤ 12 := by omega
          have HR := Lib.hid (show o = none from HO.out.symm.trans (refL_none (ann_none hno.out (Or.inr (by omega)))))
          clear hx h125 f1 f2 hne
          generalize x.toNat = xn at *
          go_wp2_with fail
          refine bodyPost_ret (v := .tuple #[.slice none 0 0, .int .i64 0, .bool false]) (by simp [results, Tryz.results64, go_sem]) rfl ⟨?_, Below.refl _ _⟩
          exact Or.inr ⟨HR.out, rfl⟩
    · obtain rfl : p = l.length := by omega
      have HR := Lib.hid (show o = none from HO.out.symm.trans (refL_none (ann_none hno.out (Or.inl (Nat.le_refl _)))))
      go_wp2_with fail
      refine bodyPost_ret (v := .tuple #[.slice none 0 0, .int .i64 0, .bool false]) (by simp [results, Tryz.results64, go_sem]) rfl ⟨?_, Below.refl _ _⟩
      exact Or.inr ⟨HR.out, rfl⟩

set_option maxRecDepth 100000 in
set_option maxHeartbeats 1000000 in
theorem refScanL_no (B c : Nat) (A : Option Addr) (l : List UInt8) (x : Int) (h1 : -9223372036854775808 ≤ x) (h2 : x ≤ 9223372036854775807) (hx : x < 0 ∨ l[x.toNat]? ≠ some 123) (_hl : l.length ≤ 1000000) (w : World) (hA : ByAt B w A c l) :
    Calls Tryz.prog 64 #[.slice A l.length c, .int .i64 x] w fun e w' => e = .returned (.tuple #[.slice none 0 0, .int .i64 0, .bool false]) ∧ w = w' := by
  by_cases h0 : x < 0
  · have d1 : decide (x < 0) = true := by simp; omega
    clear hx hA
    go_enter Tryz.func64, Tryz.ntmps64
    go_wp2_with fail
    exact bodyPost_ret (v := .tuple #[.slice none 0 0, .int .i64 0, .bool false]) (by simp [results, Tryz.results64, go_sem]) rfl ⟨rfl, rfl⟩
  · obtain ⟨k, rfl⟩ : ∃ k : Nat, x = k := ⟨x.toNat, by omega⟩
    have d1 : decide ((k : Int) < 0) = false := by simp
    have hx' : l[k]? ≠ some 123 := by
      rcases hx with h | h
      · omega
      · exact h
    clear hx h0
    by_cases hlt : k < l.length
    · have d2 : decide (l.length ≤ k) = false := by simp; omega
      have hb : l[k]? = some l[k] := List.getElem?_eq_getElem hlt
      generalize l[k] = y at hb
      obtain ⟨b, off, rfl, _, hc⟩ := at_byte hA hb
      obtain ⟨f1, f2⟩ := ne_byte (x := y) 123 (by rintro rfl; exact hx' hb)
      have f3 : ((y.toNat : Int) != 123) = true := f2
      clear hx' hb hA f1 f2
      generalize y.toNat = yn at *
      go_enter Tryz.func64, Tryz.ntmps64
      go_wp2_with fail
      exact bodyPost_ret (v := .tuple #[.slice none 0 0, .int .i64 0, .bool false]) (by simp [results, Tryz.results64, go_sem]) rfl ⟨rfl, rfl⟩
    · have d2 : decide (l.length ≤ k) = true := by simp; omega
      clear hx' hA
      go_enter Tryz.func64, Tryz.ntmps64
      go_wp2_with fail
      exact bodyPost_ret (v := .tuple #[.slice none 0 0, .int .i64 0, .bool false]) (by simp [results, Tryz.results64, go_sem]) rfl ⟨rfl, rfl⟩

theorem refScanLiteral_any (B c : Nat) (A : Option Addr) (l : List UInt8) (x : Int) (h1 : -9223372036854775808 ≤ x) (h2 : x ≤ 9223372036854775807) (hl : l.length ≤ 1000000) (w : World) (hA : ByAt B w A c l) :
    Calls Tryz.prog 64 #[.slice A l.length c, .int .i64 x] w fun e w' => RLPost (scanL l x) w.heap.size e w' ∧ Below w.heap.size w w' := by
  by_cases hin : 0 ≤ x ∧ l[x.toNat]? = some 123
  · obtain ⟨k, rfl⟩ : ∃ k : Nat, x = k := ⟨x.toNat, by omega⟩
    exact refScanL_mark B c A l k hin.2 hl w hA
  · have hx : x < 0 ∨ l[x.toNat]? ≠ some 123 := by
      by_cases h : x < 0
      · exact Or.inl h
      · exact Or.inr fun e => hin ⟨by omega, e⟩
    have hn : scanL l x = none := scanL_none (by
      unfold annX
      rcases hx with h | h
      · rw [if_neg (by omega)]
      · by_cases h0 : 0 ≤ x
        · rw [if_pos h0]; exact annO_no h
        · rw [if_neg h0])
    rw [hn]
    refine (refScanL_no B c A l x h1 h2 hx hl w hA).mono ?_
    rintro e w' ⟨he, rfl⟩
    exact ⟨Or.inr ⟨rfl, he⟩, Below.refl _ _⟩
end Go.Proofs.YtpoejnajnaolpaaGreatDoor

namespace Go.Proofs.YtpoejnajnaolpaaGreatDoor
open Go.RowKit

/-- '[]byte{c}' read back as a string. -/
theorem byte_back (w : World) (c : UInt8) (x : Int) (hx : x = c.toNat) : (convert 22 9 (.slice (some ⟨w.heap.size, 0, none⟩) 1 1)).run Tryz.prog (w.alloc (.cells #[.int .u8 x] 5)) = .ok (.string ⟨#[c]⟩) (w.alloc (.cells #[.int .u8 x] 5)) := by
  subst hx
  exact run_convert_bytes_back (P := Tryz.prog) (w.alloc (.cells #[.int .u8 c.toNat] 5)) 22 9 5 ⟨w.heap.size, 0, none⟩ 1 [c] Tryz.underlying22 Tryz.underlying5 Tryz.underlying9 (fun j hj => by
    obtain rfl : j = 0 := by simpa using hj
    rw [Lib.add_plain, World.cell?_alloc_new]
    rfl)
theorem up_snoc (s : ByteArray) (k : Nat) (h : k < s.size) : Value.string (ByteArray.mk (upL (s.data.toList.take k)).toArray ++ ByteArray.mk #[upB s[k]]) = Value.string ⟨(upL (s.data.toList.take (k + 1))).toArray⟩ := by
  congr 1
  apply ByteArray.ext
  rw [take_snocB s k h]
  simp [upL, ByteArray.data_append]

set_option maxRecDepth 100000 in
set_option maxHeartbeats 400000 in
theorem refUpper_any (s : ByteArray) (hs : s.size ≤ 1000000000) (w : World) :
    Calls Tryz.prog 120 #[.string s] w fun e w' => e = .returned (.string ⟨(upL s.data.toList).toArray⟩) ∧ Below w.heap.size w w' := by
  go_enter Tryz.func120, Tryz.ntmps120
  go_wp2_with fail
  go_loopw [3, 4] (fun o i wr => ∃ k : Nat, k ≤ s.size ∧ i = .int .i64 k ∧ o = .string ⟨(upL (s.data.toList.take k)).toArray⟩ ∧ Below w.heap.size w wr) (fun _ i _ => s.size - (intOf i).toNat)
  case atStart => exact ⟨0, Nat.zero_le _, rfl, rfl, Below.refl _ _⟩
  case round =>
    obtain ⟨k, hk, rfl, rfl, hb⟩ := hrel
    by_cases hlt : k < s.size
    · have hlen : (upL (s.data.toList.take k)).length ≤ k := by rw [upL_length]; exact List.length_take_le _ _
      have hn : s[k].toNat ≤ 255 := by have := s[k].toNat_lt; omega
      by_cases ha : 97 ≤ s[k].toNat
      · by_cases hz : s[k].toNat ≤ 122
        · have hcv := byte_back wr (upB s[k]) ((s[k].toNat : Int) - 32) (by rw [upB_toNat]; unfold upN; rw [if_pos ⟨ha, hz⟩]; omega)
          go_wp2_with fail
          go_roundw
          case rel => exact ⟨k + 1, by omega, by go_num, up_snoc s k hlt, (hb.alloc hb.size _)⟩
          case measure => simp [intOf]; omega
        · have hcv := byte_back wr (upB s[k]) (s[k].toNat : Int) (by rw [upB_toNat]; unfold upN; rw [if_neg (by omega)])
          go_wp2_with fail
          go_roundw
          case rel => exact ⟨k + 1, by omega, by go_num, up_snoc s k hlt, (hb.alloc hb.size _)⟩
          case measure => simp [intOf]; omega
      · have hcv := byte_back wr (upB s[k]) (s[k].toNat : Int) (by rw [upB_toNat]; unfold upN; rw [if_neg (by omega)])
        go_wp2_with fail
        go_roundw
        case rel => exact ⟨k + 1, by omega, by go_num, up_snoc s k hlt, (hb.alloc hb.size _)⟩
        case measure => simp [intOf]; omega
    · obtain rfl : k = s.size := by omega
      go_wp2_with fail
      go_ret
      exact ⟨by rw [take_all]; rfl, hb⟩
end Go.Proofs.YtpoejnajnaolpaaGreatDoor

namespace Go.Proofs.YtpoejnajnaolpaaGreatDoor
open Go.RowKit Go.Maps

/-- The loop's counter: 1, 2, 4, 8, 16, then 32. -/
def cnts : List Nat := [1, 2, 4, 8, 16, 32]
theorem cnts_mem {x : Nat} : x ∈ cnts ↔ x = 1 ∨ x = 2 ∨ x = 4 ∨ x = 8 ∨ x = 16 ∨ x = 32 := by simp [cnts]

set_option maxRecDepth 100000 in
set_option maxHeartbeats 1000000 in
theorem refFlag_any (s : ByteArray) (hs : s.size ≤ 1000000000) (w : World) :
    Calls Tryz.prog 111 #[.string s] w fun e w' => e = .returned (.int .i64 (flagL s.data.toList : Nat)) ∧ Below w.heap.size w w' := by
  have U := Lib.hid (fun w1 => refUpper_any s hs w1)
  obtain ⟨y, hy⟩ : ∃ y, upL s.data.toList = y := ⟨_, rfl⟩
  have HY := Lib.hid (show flagL s.data.toList = flagU y by rw [← hy]; rfl)
  rw [hy] at U
  rw [HY.out]
  clear hy HY
  go_enter Tryz.func111, Tryz.ntmps111
  go_wp2_with fail
  go_loopw [3] (fun i wr => ∃ f : Nat, f ∈ cnts ∧ i = .int .i64 f ∧ Hid (∀ g, g ∈ ones → g < f → y ≠ upL (nameF g)) ∧ Below w.heap.size w wr) (fun i _ => 32 - (intOf i).toNat)
  case atStart => exact ⟨1, by decide, rfl, Lib.hid (fun g hg h => by rcases ones_mem.1 hg with rfl | rfl | rfl | rfl | rfl <;> omega), Below.refl _ _⟩
  case round =>
    obtain ⟨f, hf, rfl, hn, hb⟩ := hrel
    by_cases hf32 : f = 32
    · subst hf32
      have HZ := Lib.hid (show flagU y = 0 by
        rcases flagU_is y with h | ⟨h1, h2⟩
        · exact h
        · exact absurd h2 (hn.out _ h1 (by rcases ones_mem.1 h1 with e | e | e | e | e <;> omega)))
      go_wp2_with fail
      go_ret
      exact ⟨by rw [HZ.out]; rfl, hb⟩
    · have ho : f ∈ ones := by
        rcases cnts_mem.1 hf with h | h | h | h | h | h
        · exact ones_mem.2 (by omega)
        · exact ones_mem.2 (by omega)
        · exact ones_mem.2 (by omega)
        · exact ones_mem.2 (by omega)
        · exact ones_mem.2 (by omega)
        · exact absurd h hf32
      have h16 : f ≤ 16 := by rcases ones_mem.1 ho with e | e | e | e | e <;> omega
      have h1 : 1 ≤ f := by rcases ones_mem.1 ho with e | e | e | e | e <;> omega
      have HO := Lib.hid ho
      have H2 := Lib.hid (show 2 * f ∈ cnts by rcases ones_mem.1 ho with rfl | rfl | rfl | rfl | rfl <;> decide)
      have HN2 := Lib.hid (show ∀ g, g ∈ ones → g < 2 * f → g = f ∨ g < f from fun g hg hlt => by
        rcases ones_mem.1 ho with rfl | rfl | rfl | rfl | rfl <;> rcases ones_mem.1 hg with rfl | rfl | rfl | rfl | rfl <;> omega)
      have NM := Lib.hid (fun w1 => refFName_any f w1)
      have hnl : (nameF f).length ≤ 100 := by rcases ones_mem.1 ho with rfl | rfl | rfl | rfl | rfl <;> decide
      have V := Lib.hid (fun w1 => refUpper_any ⟨(nameF f).toArray⟩ (by show (nameF f).toArray.size ≤ _; simp; omega) w1)
      rw [show (ByteArray.mk (nameF f).toArray).data.toList = nameF f from rfl] at V
      obtain ⟨nf, hnf⟩ : ∃ nf, nameF f = nf := ⟨_, rfl⟩
      rw [hnf] at V NM
      obtain ⟨x, hx⟩ : ∃ x, upL nf = x := ⟨_, rfl⟩
      rw [hx] at V
      have HX := Lib.hid (show upL (nameF f) = x by rw [hnf, hx])
      clear ho hf hnl hnf hx
      by_cases he : x = y
      · have hb1 : (x == y) = true := by simpa using he
        have HE := Lib.hid (show flagU y = f from (flagU_eq HO.out).2 (by rw [HX.out, he]))
        clear he
        go_wp2_with fail
        refine (NM.out _).mono ?_
        rintro e w1 ⟨rfl, rfl⟩
        go_wp2_with fail
        refine (V.out _).mono ?_
        rintro e w1 ⟨rfl, h⟩
        replace hb := hb.trans (h.mono hb.size)
        clear h
        go_wp2_with fail
        refine (U.out _).mono ?_
        rintro e w2 ⟨rfl, h⟩
        replace hb := hb.trans (h.mono hb.size)
        clear h
        go_wp2_with fail
        go_ret
        exact ⟨by rw [HE.out]; rfl, hb⟩
      · have hb1 : (x == y) = false := by simpa using he
        have HE := Lib.hid he
        clear he
        go_wp2_with fail
        refine (NM.out _).mono ?_
        rintro e w1 ⟨rfl, rfl⟩
        go_wp2_with fail
        refine (V.out _).mono ?_
        rintro e w1 ⟨rfl, h⟩
        replace hb := hb.trans (h.mono hb.size)
        clear h
        go_wp2_with fail
        refine (U.out _).mono ?_
        rintro e w2 ⟨rfl, h⟩
        replace hb := hb.trans (h.mono hb.size)
        clear h
        go_wp2_with fail
        go_roundw
        case rel => exact ⟨2 * f, H2.out, by go_num, Lib.hid (fun g hg hlt => by
          rcases HN2.out g hg hlt with rfl | h
          · rw [HX.out]; exact fun e => HE.out e.symm
          · exact hn.out g hg h), hb⟩
        case measure => simp [intOf]; omega
end Go.Proofs.YtpoejnajnaolpaaGreatDoor

namespace Go.Proofs.YtpoejnajnaolpaaGreatDoor
open Go.RowKit Go.Maps

set_option maxRecDepth 100000 in
set_option maxHeartbeats 1000000 in
theorem refParse_any (s : ByteArray) (hs : s.size ≤ 100000000) (w : World) :
    Calls Tryz.prog 85 #[.string s] w fun e w' => e = .returned (.int .i64 (refO (parseF s.data.toList))) ∧ Below w.heap.size w w' := by
  by_cases h1 : s.data.toList = [40, 41]
  · have b1 : (s.toList == [40, 41]) = true := by rw [btl, h1]; rfl
    have HP := Lib.hid (show parseF s.data.toList = some 0 by unfold parseF; rw [if_pos h1])
    clear h1
    go_enter Tryz.func85, Tryz.ntmps85
    go_wp2_with fail
    go_ret
    exact ⟨by rw [HP.out]; rfl, Below.refl _ _⟩
  have b1 : (s.toList == [40, 41]) = false := by rw [btl]; simpa using h1
  have H1 := Lib.hid h1
  clear h1
  by_cases h2 : s.size < 2
  · have HP := Lib.hid (show parseF s.data.toList = none by unfold parseF; rw [if_neg H1.out, if_neg (by rw [Array.length_toList]; show ¬ (2 ≤ s.size ∧ _); omega)])
    go_enter Tryz.func85, Tryz.ntmps85
    go_wp2_with fail
    go_ret
    exact ⟨by rw [HP.out]; rfl, Below.refl _ _⟩
  have h20 : 0 < s.size := by omega
  have h21 : s.size - 1 < s.size := by omega
  have h22 : (1 : Int) ≤ s.size := by omega
  have h23 : 2 ≤ s.size := by omega
  clear h2
  have g0 : s.data.toList[0]? = some s[0] := by rw [Array.getElem?_toList, Array.getElem?_eq_getElem h20]; rfl
  have g1 : s.data.toList[s.data.toList.length - 1]? = some s[s.size - 1] := by
    rw [Array.getElem?_toList, Array.length_toList]
    show s.data[s.size - 1]? = _
    rw [Array.getElem?_eq_getElem h21]; rfl
  by_cases c0 : s[0].toNat = 40
  case neg =>
    have HP := Lib.hid (show parseF s.data.toList = none by
      unfold parseF
      rw [if_neg H1.out, if_neg]
      rintro ⟨_, e, _⟩
      rw [g0] at e
      injection e with e
      exact c0 (by rw [e]; rfl))
    have d0 : ((s[0].toNat : Int) != 40) = true := by simp; omega
    clear g0 g1 c0 H1
    go_enter Tryz.func85, Tryz.ntmps85
    go_wp2_with fail
    go_ret
    exact ⟨by rw [HP.out]; rfl, Below.refl _ _⟩
  by_cases c1 : s[s.size - 1].toNat = 41
  case neg =>
    have HP := Lib.hid (show parseF s.data.toList = none by
      unfold parseF
      rw [if_neg H1.out, if_neg]
      rintro ⟨_, _, e⟩
      rw [g1] at e
      injection e with e
      exact c1 (by rw [e]; rfl))
    have d0 : ((s[0].toNat : Int) != 40) = false := by simp; omega
    have d1 : ((s[s.size - 1].toNat : Int) != 41) = true := by simp; omega
    clear g0 g1 c0 c1 H1
    go_enter Tryz.func85, Tryz.ntmps85
    go_wp2_with fail
    go_ret
    exact ⟨by rw [HP.out]; rfl, Below.refl _ _⟩
  have HP := Lib.hid (show parseF s.data.toList = namesO (splitL 32 (innerL s.data.toList)) by
    unfold parseF
    rw [if_neg H1.out, if_pos]
    refine ⟨by rw [Array.length_toList]; exact h23, ?_, ?_⟩
    · rw [g0]; congr 1; exact UInt8.toNat_inj.1 c0
    · rw [g1]; congr 1; exact UInt8.toNat_inj.1 c1)
  have d0 : ((s[0].toNat : Int) != 40) = false := by simp; omega
  have d1 : ((s[s.size - 1].toNat : Int) != 41) = false := by simp; omega
  have R0 := Lib.hid (refAt_start (l := s.data.toList) (by rw [Array.length_toList]; exact h23))
  rw [HP.out]
  clear g0 g1 c0 c1 H1 HP
  go_enter Tryz.func85, Tryz.ntmps85
  go_wp2_with fail
  clear d0 d1
  go_loopw [4, 5, 6] (fun o fr i wr => ∃ (pre : List (List UInt8)) (f k x : Nat), o = .int .i64 x ∧ fr = .int .i64 f ∧ i = .int .i64 k ∧ 1 ≤ f ∧ f ≤ k ∧ k ≤ s.size ∧ x < 32 ∧ Hid (orF pre = x) ∧ Hid (RefAt s.data.toList pre f k) ∧ Below w.heap.size w wr)
    (fun _ _ i _ => s.size - (intOf i).toNat)
  case atStart => exact ⟨[], 1, 1, 0, rfl, rfl, rfl, by omega, by omega, by omega, by omega, Lib.hid rfl, R0, Below.refl _ _⟩
  case round =>
    obtain ⟨pre, f, k, x, rfl, rfl, rfl, hf1, hfk, hks, hx, HX, HR, hb⟩ := hrel
    by_cases hlt : k < s.size
    · have hget : s.data.toList[k]? = some s[k] := by rw [Array.getElem?_toList, Array.getElem?_eq_getElem hlt]; rfl
      by_cases hend : k < s.size - 1 ∧ s[k].toNat ≠ 32
      · have HN := Lib.hid (refAt_skip HR.out (by rw [Array.length_toList]; show _ < s.size; omega) (by rw [hget]; intro e; injection e with e; exact hend.2 (by rw [e]; rfl)))
        have e1 := hend.1
        have e2 : ((s[k].toNat : Int) != 32) = true := by simp; omega
        clear hget hend HR
        go_wp2_with fail
        go_roundw
        case rel => exact ⟨pre, f, k + 1, x, rfl, rfl, by go_num, by omega, by omega, by omega, by omega, HX, HN, hb⟩
        case measure => simp [intOf]; omega
      · have hc : k + 1 < s.data.toList.length → s.data.toList[k]? = some 32 := by
          rw [Array.length_toList, hget]
          intro h
          congr 1
          have : k + 1 < s.size := h
          apply UInt8.toNat_inj.1
          show s[k].toNat = 32
          omega
        have hseg : (s.extract f k).data.toList = segL s.data.toList f k := by
          rw [ByteArray.data_extract, Array.toList_extract, List.extract]
          rfl
        have F := Lib.hid (refFlag_any (s.extract f k) (by rw [ByteArray.size_extract]; omega) wr)
        rw [hseg] at F
        have hfl := flagL_lt (segL s.data.toList f k)
        by_cases h0 : flagL (segL s.data.toList f k) = 0
        · have HB := Lib.hid (refAt_bad HR.out hfk (by rw [Array.length_toList]; exact hlt) hc h0)
          rw [h0] at F
          clear hget hc hseg HR h0 hfl
          have hw : ((s[k].toNat : Int) != 32) = false ∨ ((s[k].toNat : Int) != 32) = true ∧ s.size - 1 ≤ k := by
            by_cases e : s[k].toNat = 32
            · left; simp; omega
            · right; exact ⟨by simp; omega, by omega⟩
          clear hend
          rcases hw with e2 | ⟨e2, e3⟩
          all_goals
            go_wp2_with fail
            refine F.out.mono ?_
            rintro e w1 ⟨rfl, h⟩
            replace hb := hb.trans (h.mono hb.size)
            clear h F
            go_wp2_with fail
            go_ret
            exact ⟨by rw [HB.out]; rfl, hb⟩
        · have HN := Lib.hid (refAt_next HR.out hfk (by rw [Array.length_toList]; exact hlt) hc h0)
          have HO := Lib.hid (orF_snoc pre (segL s.data.toList f k))
          have H0 := Lib.hid h0
          have HT := Lib.hid (i64_or_nat x (flagL (segL s.data.toList f k)) (by omega) (by omega))
          generalize segL s.data.toList f k = sg at *
          generalize flagL sg = g at *
          have hg0 : ((g : Int) == 0) = false := by simp; omega
          have hor : x ||| g < 32 := Nat.or_lt_two_pow (n := 5) hx hfl
          clear hget hc hseg HR h0
          have hw : ((s[k].toNat : Int) != 32) = false ∨ ((s[k].toNat : Int) != 32) = true ∧ s.size - 1 ≤ k := by
            by_cases e : s[k].toNat = 32
            · left; simp; omega
            · right; exact ⟨by simp; omega, by omega⟩
          clear hend
          rcases hw with e2 | ⟨e2, e3⟩
          all_goals
            go_wp2_with fail
            refine F.out.mono ?_
            rintro e w1 ⟨rfl, h⟩
            replace hb := hb.trans (h.mono hb.size)
            clear h F
            go_wp2_with fail
            go_roundw
            case rel => exact ⟨_, k + 1, k + 1, x ||| g, by rw [HT.out], by go_num, by go_num, by omega, by omega, by omega, hor, Lib.hid (by rw [HO.out, HX.out]), HN, hb⟩
            case measure => simp [intOf]; omega
    · obtain rfl : k = s.size := by omega
      have HE := Lib.hid (refAt_end HR.out (by rw [Array.length_toList]; exact Nat.le_refl _))
      clear HR
      go_wp2_with fail
      go_ret
      exact ⟨by rw [HE.out, HX.out]; rfl, hb⟩
end Go.Proofs.YtpoejnajnaolpaaGreatDoor
