/- The reference's Announced. -/
import Derived.Test.YtldlghfjinpnkaaDoorAnnF
import Derived.Test.YtldlghfjinpnkaaDoorRefNum
namespace Go.Proofs.YtldlghfjinpnkaaDoor
open Go.RowKit
open Go.Lib hiding intOf

/-- Digits from k to m, none in front of them. -/
def DgAt (l : List UInt8) (k m : Nat) : Prop := ∀ j : Nat, k ≤ j → j < m → ∃ y, l[j]? = some y ∧ isDig y = true
theorem DgAt.front {l : List UInt8} {p m : Nat} {y : UInt8} (h : DgAt l (p + 1) m) (hp : l[p]? = some y) (hy : isDig y = true) : DgAt l p m := fun j hj hm => by
  rcases Nat.eq_or_lt_of_le hj with rfl | hlt
  · exact ⟨y, hp, hy⟩
  · exact h j hlt hm
theorem ref_ann {l : List UInt8} {k m n : Nat} (h : AnnL l n) (hlen : l.length = m + 1) (hk : k ≤ m) (hd : DgAt l k m) (hs : ∀ p y, k = p + 1 → l[p]? = some y → isDig y = false) :
    ∃ p, k = p + 1 ∧ l[p]? = some 123 ∧ (l.take m).drop k = decDigits n := by
  obtain ⟨hn, pre, rfl⟩ := h
  have hm : m = pre.length + 1 + (decDigits n).length := by simp at hlen; omega
  have h123 : (pre ++ 123 :: (decDigits n ++ [125]))[pre.length]? = some 123 := by simp
  have hk2 : k = pre.length + 1 := by
    rcases Nat.lt_trichotomy k (pre.length + 1) with hlt | heq | hgt
    · obtain ⟨y, h1, h2⟩ := hd pre.length (by omega) (by omega)
      rw [h123] at h1
      obtain rfl := Option.some.inj h1
      exact absurd h2 (by decide)
    · exact heq
    · obtain ⟨p, rfl⟩ : ∃ p, k = p + 1 := ⟨k - 1, by omega⟩
      obtain ⟨i, rfl⟩ : ∃ i, p = pre.length + (i + 1) := ⟨p - pre.length - 1, by omega⟩
      have hi : i < (decDigits n).length := by omega
      have e : (pre ++ 123 :: (decDigits n ++ [125]))[pre.length + (i + 1)]? = some (decDigits n)[i] := by
        rw [List.getElem?_append_right (by omega), show pre.length + (i + 1) - pre.length = i + 1 by omega, List.getElem?_cons_succ, List.getElem?_append_left hi, List.getElem?_eq_getElem hi]
      have h1 := hs _ _ rfl e
      rw [dec_dig n _ (List.getElem_mem hi)] at h1
      cases h1
  refine ⟨pre.length, hk2, h123, ?_⟩
  subst hk2
  subst hm
  have e : pre ++ 123 :: (decDigits n ++ [125]) = (pre ++ 123 :: decDigits n) ++ [125] := by simp
  have el : (pre ++ 123 :: decDigits n).length = pre.length + 1 + (decDigits n).length := by simp; omega
  rw [e, ← el, List.take_left', show pre ++ 123 :: decDigits n = (pre ++ [123]) ++ decDigits n by simp, show pre.length + 1 = (pre ++ [123]).length by simp, List.drop_left]
  rfl
theorem ref_ann_of {l : List UInt8} {p m n : Nat} (hlen : l.length = m + 1) (hk : p + 1 ≤ m) (h123 : l[p]? = some 123) (h125 : l[m]? = some 125) (hn : numOf ((l.take m).drop (p + 1)) = some n) : AnnL l n := by
  obtain ⟨h1, h2⟩ := numOf_some hn
  refine ⟨h1, l.take p, ?_⟩
  rw [h2]
  obtain ⟨hp, hpe⟩ := List.getElem?_eq_some_iff.1 h123
  obtain ⟨hm, hme⟩ := List.getElem?_eq_some_iff.1 h125
  have e1 : l = l.take m ++ [125] := by
    conv => lhs; rw [← List.take_append_drop m l, List.drop_eq_getElem_cons hm, hme, List.drop_eq_nil_of_le (by omega)]
  have e2 : l.take m = l.take p ++ 123 :: (l.take m).drop (p + 1) := by
    conv => lhs; rw [← List.take_append_drop p (l.take m), List.take_take, Nat.min_eq_left (by omega), List.drop_eq_getElem_cons (by rw [List.length_take]; omega), List.getElem_take, hpe]
  conv => lhs; rw [e1, e2]
  simp
theorem ann_last {l : List UInt8} {m n : Nat} (h : AnnL l n) (hlen : l.length = m + 1) : l[m]? = some 125 := by
  obtain ⟨_, pre, rfl⟩ := h
  have e : pre ++ 123 :: (decDigits n ++ [125]) = (pre ++ 123 :: decDigits n) ++ [125] := by simp
  rw [e] at hlen ⊢
  rw [List.length_append, List.length_singleton] at hlen
  rw [List.getElem?_append_right (by omega), show m - (pre ++ 123 :: decDigits n).length = 0 by omega]
  rfl

theorem offA_zero (A : Option Addr) (c : Nat) : offA A c 0 = A := by
  unfold offA
  split
  · rfl
  · rcases A with _ | ⟨b, o, s⟩ <;> simp [Addr.add]

set_option maxRecDepth 100000 in
set_option maxHeartbeats 2000000 in
theorem refAnnounced_any (B c n : Nat) (A : Option Addr) (l : List UInt8) (hn : l.length = n) (hl : n ≤ 1000000) (w : World) (hA : ByAt B w A c l) :
    Calls Tryd.prog 38 #[.slice A n c] w fun e w' => AnnPost l e ∧ w = w' := by
  cases n with
  | zero =>
    have HR := Lib.hid (show IsAnn l none from fun m hm => by
      obtain ⟨_, pre, rfl⟩ := hm
      simp at hn)
    clear hA hn
    go_enter Tryd.func38, Tryd.ntmps38
    go_wp2_with fail
    go_ret2
    exact ⟨⟨none, HR.out, rfl⟩, rfl⟩
  | succ m =>
    have HA := Lib.hid hA
    have HN := Lib.hid hn
    have hle := hA.le
    have hmc : m ≤ c := by omega
    have hmc1 : m + 1 ≤ c := by omega
    obtain ⟨b, off, rfl, _, _, hc⟩ := hA.cell (j := m) (by omega)
    have hlm : l[m]? = some (l[m]'(by omega)) := List.getElem?_eq_getElem _
    generalize l[m]'(by omega) = z at hc hlm
    by_cases h125 : z = 125
    · subst h125
      have hc' : w.cell? ⟨b, off + m, none⟩ = some (.int .u8 125) := hc
      have HM := Lib.hid hlm
      clear hc hA hn hlm
      go_enter Tryd.func38, Tryd.ntmps38
      go_wp2_with fail
      have hm0 : decide ((m : Int) < 0) = false := by simp
      go_loop [5] (fun i => ∃ k : Nat, k ≤ m ∧ i = .int .i64 (k : Int) ∧ Hid (DgAt l k m)) (fun i => (intOf i).toNat)
      case atStart => exact ⟨m, Nat.le_refl _, rfl, fun j h1 h2 => absurd h1 (by omega)⟩
      case round =>
        obtain ⟨k, hk, rfl, hD⟩ := hrel
        have NM := Lib.hid (refNumber_any ⟨((l.take m).drop k).toArray⟩ (by rw [mk_size, cut_len (by rw [HN.out]; omega)]; omega) w)
        have hcv := convS B w _ (c - k) (m - k) _ (HA.out.cut (lo := k) (hi := m) hk (by rw [HN.out]; omega)) (cut_len (by rw [HN.out]; omega))
        have hsl := fun W => slice_lh (some ⟨b, off, none⟩) (m + 1) c k m hk (by rw [HN.out] at hle; omega) W
        have hse := fun x lo hi mx W => sliceAt_eq x lo hi mx W
        have HRA := Lib.hid (fun n (h : AnnL l n) hs => ref_ann h HN.out hk hD.out hs)
        have HNO := Lib.hid (fun n (h : numOf ((l.take m).drop k) = some n) (p : Nat) (hp : k = p + 1) (h123 : l[p]? = some 123) => show AnnL l n from ref_ann_of HN.out (by omega) h123 HM.out (by rw [← hp]; exact h))
        rw [show (ByteArray.mk ((l.take m).drop k).toArray).data.toList = (l.take m).drop k by simp] at NM
        obtain ⟨D, hDe⟩ : ∃ D, (l.take m).drop k = D := ⟨_, rfl⟩
        rw [hDe] at NM hcv HNO
        have HRA := Lib.hid (fun n (h : AnnL l n) hs => show ∃ p, k = p + 1 ∧ l[p]? = some 123 ∧ D = decDigits n by obtain ⟨p, a1, a2, a3⟩ := HRA.out n h hs; exact ⟨p, a1, a2, hDe.symm.trans a3⟩)
        clear hDe
        cases k with
        | zero =>
          have HR := Lib.hid (show IsAnn l none from fun n h => by obtain ⟨p, a1, _⟩ := HRA.out n h (fun p y e => by omega); omega)
          clear HRA HNO hD
          rw [offA_zero, Nat.sub_zero, Nat.sub_zero] at hcv
          cases ho : numOf D with
          | none =>
            rw [ho] at NM
            clear ho
            go_wp2_with fail
            refine NM.out.mono ?_
            rintro e w1 ⟨rfl, rfl⟩
            go_wp2_with fail
            go_ret2
            exact ⟨⟨none, HR.out, rfl⟩, rfl⟩
          | some x =>
            rw [ho] at NM
            clear ho
            go_wp2_with fail
            refine NM.out.mono ?_
            rintro e w1 ⟨rfl, rfl⟩
            go_wp2_with fail
            go_ret2
            exact ⟨⟨none, HR.out, rfl⟩, rfl⟩
        | succ p =>
          have ecast : ((p + 1 : Nat) : Int) = (p : Int) + 1 := by omega
          rw [ecast] at hsl
          rw [ecast]
          clear ecast
          have hpl : p < l.length := by rw [HN.out]; omega
          have hcp := HA.out.cell (j := p) hpl
          obtain ⟨b', off', he, _, _, hcp⟩ := hcp
          injection he with he
          injection he with he1 he2 _
          subst he1
          subst he2
          have HP := Lib.hid (show l[p]? = some l[p] from List.getElem?_eq_getElem hpl)
          generalize l[p] = y at *
          by_cases hdy : isDig y = true
          · have HN2 := Lib.hid (hD.out.front HP.out hdy)
            have hy1 : 48 ≤ y.toNat := by unfold isDig at hdy; simp at hdy; omega
            have hy2 : y.toNat ≤ 57 := by unfold isDig at hdy; simp at hdy; omega
            clear hdy hsl hcv HRA HNO NM
            generalize y.toNat = yn at *
            go_wp2_with fail
            go_round
            case rel => exact ⟨p, by omega, rfl, HN2.out⟩
            case measure => simp [intOf]; omega
          · have HRA := Lib.hid (fun n (h : AnnL l n) => HRA.out n h (fun q z e hz => by
              obtain rfl : q = p := by omega
              rw [HP.out] at hz
              obtain rfl := Option.some.inj hz
              exact Bool.eq_false_iff.2 hdy))
            have hnd : y.toNat < 48 ∨ 57 < y.toNat := by
              unfold isDig at hdy
              simp at hdy
              omega
            clear hdy hD
            cases ho : numOf D with
            | none =>
              have HR := Lib.hid (show IsAnn l none from fun n h => by
                obtain ⟨_, _, _, a3⟩ := HRA.out n h
                rw [a3, numOf_dec h.1] at ho
                cases ho)
              rw [ho] at NM
              clear ho HRA HNO
              generalize y.toNat = yn at *
              rcases hnd with hnd | hnd
              · have hnd2 : ¬ 48 ≤ yn := by omega
                go_wp2_with fail
                refine NM.out.mono ?_
                rintro e w1 ⟨rfl, rfl⟩
                go_wp2_with fail
                go_ret2
                exact ⟨⟨none, HR.out, rfl⟩, rfl⟩
              · have hnd2 : ¬ yn ≤ 57 := by omega
                have hnd3 : 48 ≤ yn := by omega
                go_wp2_with fail
                refine NM.out.mono ?_
                rintro e w1 ⟨rfl, rfl⟩
                go_wp2_with fail
                go_ret2
                exact ⟨⟨none, HR.out, rfl⟩, rfl⟩
            | some x =>
              have hxle := num_le ho
              by_cases h123 : y = 123
              · subst h123
                have HR := Lib.hid (show IsAnn l (some x) from HNO.out x ho p rfl HP.out)
                rw [ho] at NM
                have hcp' : w.cell? ⟨b, off + p, none⟩ = some (.int .u8 123) := hcp
                clear ho HRA HNO hcp hnd
                go_wp2_with fail
                refine NM.out.mono ?_
                rintro e w1 ⟨rfl, rfl⟩
                go_wp2_with fail
                go_ret2
                exact ⟨⟨some x, HR.out, rfl⟩, rfl⟩
              · have HR := Lib.hid (show IsAnn l none from fun n h => by
                  obtain ⟨q, a1, a2, _⟩ := HRA.out n h
                  obtain rfl : q = p := by omega
                  rw [HP.out] at a2
                  exact h123 (Option.some.inj a2))
                have hz : ((y.toNat : Int) == 123) = false := by
                  rw [beq_eq_false_iff_ne]
                  intro e
                  exact h123 (UInt8.toNat_inj.1 (by show y.toNat = 123; omega))
                have hz2 : ((y.toNat : Int) != 123) = true := by rw [bne, hz]; rfl
                rw [ho] at NM
                clear ho HRA HNO h123
                generalize y.toNat = yn at *
                rcases hnd with hnd | hnd
                · have hnd2 : ¬ 48 ≤ yn := by omega
                  go_wp2_with fail
                  refine NM.out.mono ?_
                  rintro e w1 ⟨rfl, rfl⟩
                  go_wp2_with fail
                  go_ret2
                  exact ⟨⟨none, HR.out, rfl⟩, rfl⟩
                · have hnd2 : ¬ yn ≤ 57 := by omega
                  have hnd3 : 48 ≤ yn := by omega
                  go_wp2_with fail
                  refine NM.out.mono ?_
                  rintro e w1 ⟨rfl, rfl⟩
                  go_wp2_with fail
                  go_ret2
                  exact ⟨⟨none, HR.out, rfl⟩, rfl⟩
    · have HR := Lib.hid (show IsAnn l none from fun n hm => by
        have := ann_last hm hn
        rw [hlm] at this
        exact h125 (Option.some.inj this))
      have hz : ((z.toNat : Int) == 125) = false := by
        rw [beq_eq_false_iff_ne]
        intro e
        exact h125 (UInt8.toNat_inj.1 (by show z.toNat = 125; omega))
      have hz2 : ((z.toNat : Int) != 125) = true := by rw [bne, hz]; rfl
      clear hA hn hlm h125
      generalize z.toNat = y at *
      go_enter Tryd.func38, Tryd.ntmps38
      go_wp2_with fail
      go_ret2
      exact ⟨⟨none, HR.out, rfl⟩, rfl⟩
end Go.Proofs.YtldlghfjinpnkaaDoor
