/- quote: the scanner's literal; ScanLiteral. -/
import Derived.Test.YtpklpfncohdlhaaDoorAnn
import Derived.Test.YtpklpfncohdlhaaDoorScanFQ
namespace Go.Proofs.YtpklpfncohdlhaaDoor
open Go.RowKit

/-- A literal form at the front: its bytes, how many bytes it takes. -/
def litO (r : List UInt8) : Option (List UInt8 × Nat) :=
  match annO r with
  | some (n, j) => if n ≤ 65536 ∧ r[j]? = some 13 ∧ r[j + 1]? = some 10 ∧ j + 2 + n ≤ r.length then some ((r.drop (j + 2)).take n, j + 2 + n) else none
  | none => none
/-- What ScanLiteral reads. -/
def scanL (l : List UInt8) (x : Int) : Option (List UInt8 × Nat) := if 0 ≤ x then (litO (l.drop x.toNat)).map (fun t => (t.1, x.toNat + t.2)) else none

theorem scanL_none {l : List UInt8} {x : Int} (h : annX l x = none) : scanL l x = none := by
  unfold annX at h
  unfold scanL litO
  by_cases h0 : 0 ≤ x
  · rw [if_pos h0] at h ⊢
    rw [h]
    rfl
  · rw [if_neg h0]
theorem scanL_some {l : List UInt8} {k n j : Nat} (h : annX l (k : Int) = some (n, j)) : scanL l (k : Int) = if n ≤ 65536 ∧ l[k + j]? = some 13 ∧ l[k + j + 1]? = some 10 ∧ k + j + 2 + n ≤ l.length then some ((l.drop (k + j + 2)).take n, k + j + 2 + n) else none := by
  unfold annX at h
  rw [if_pos (by omega)] at h
  unfold scanL litO
  rw [if_pos (by omega)]
  have e : ((k : Int)).toNat = k := rfl
  rw [e] at h ⊢
  rw [h]
  simp only [List.getElem?_drop, List.length_drop, List.drop_drop]
  have hj : j + 2 ≤ (l.drop k).length ∨ True := Or.inr trivial
  clear hj
  by_cases hc : n ≤ 65536 ∧ l[k + j]? = some 13 ∧ l[k + j + 1]? = some 10 ∧ k + j + 2 + n ≤ l.length
  · rw [if_pos hc, if_pos ⟨hc.1, hc.2.1, by rw [← Nat.add_assoc]; exact hc.2.2.1, by have := hc.2.2.2; omega⟩]
    simp only [Option.map_some, Option.some.injEq, Prod.mk.injEq]
    exact ⟨by rw [← Nat.add_assoc], by omega⟩
  · rw [if_neg hc, if_neg (fun hd => hc ⟨hd.1, hd.2.1, by rw [Nat.add_assoc]; exact hd.2.2.1, by
      have h1 := hd.2.2.2
      have h2 := (List.getElem?_eq_some_iff.1 hd.2.2.1).1
      omega⟩)]
    rfl

/-- What literal answers. -/
def LPost (bs c : Nat) (A : Option Addr) (l : List UInt8) (x : Int) (e : Ending) (w' : World) : Prop :=
  (∃ q n : Nat, q + n ≤ l.length ∧ scanL l x = some ((l.drop q).take n, q + n) ∧ e = .returned (.tuple #[.slice (offA A c q) n (c - q), .bool true]) ∧ Cur bs A c l ((q + n : Nat) : Int) w') ∨
  (scanL l x = none ∧ e = .returned (.tuple #[.slice none 0 0, .bool false]))

set_option maxRecDepth 100000 in
set_option maxHeartbeats 2000000 in
theorem literalF_any (bs c : Nat) (A : Option Addr) (l : List UInt8) (x : Int) (h1 : -9223372036854775808 ≤ x) (h2 : x ≤ 9223372036854775807) (hl : l.length ≤ 1000000000) (w : World) (henv : ∀ w1, Below bs w w1 → Env w1) (h : Cur bs A c l x w) :
    Calls Tryd.prog 61 #[.pointer (some ⟨bs, 0, none⟩)] w fun e w' => LPost bs c A l x e w' ∧ Below bs w w' := by
  have AN := Lib.hid (annF_any bs c A l x h1 h2 hl w henv h)
  have PT13 := Lib.hid (fun p hp w1 hc => pass_t bs c A l p 13 hp hl w1 hc)
  have PF13 := Lib.hid (fun p hp hx w1 hc => pass_f bs c A l p hp 13 hx hl w1 hc)
  have PT10 := Lib.hid (fun p hp w1 hc => pass_t bs c A l p 10 hp hl w1 hc)
  have PF10 := Lib.hid (fun p hp hx w1 hc => pass_f bs c A l p hp 10 hx hl w1 hc)
  have TT := Lib.hid (fun p n hn w1 hc => take_t bs c A l p n hn hl w1 hc)
  have TF := Lib.hid (fun p n hp hn w1 hc => take_f bs c A l p n hp hn hl w1 hc)
  clear h henv
  go_enter Tryd.func61, Tryd.ntmps61
  go_wp2_with fail
  refine AN.out.mono ?_
  rintro e w1 ⟨ha, hb⟩
  unfold AXPost at ha
  rcases ha with ⟨n, j, k, rfl, ha, hn, hkj, rfl, hc⟩ | ⟨ha, n, rfl⟩
  · have HS := Lib.hid (scanL_some ha)
    have HC := Lib.hid hc
    have HB := Lib.hid hb
    clear ha AN hc hb
    obtain ⟨q, hq⟩ : ∃ q, k + j = q := ⟨_, rfl⟩
    rw [hq] at HS HC hkj
    clear hq
    by_cases hbig : n ≤ 65536
    · have e1 : decide (65536 < (n : Int)) = false := by simp; omega
      by_cases h13 : l[q]? = some 13
      · have hq1 := (List.getElem?_eq_some_iff.1 h13).1
        have P1 := Lib.hid (PT13.out q h13 w1 HC.out)
        by_cases h10 : l[q + 1]? = some 10
        · have hq2 := (List.getElem?_eq_some_iff.1 h10).1
          have P2 := Lib.hid (PT10.out (q + 1) h10)
          by_cases hfit : q + 2 + n ≤ l.length
          · have HR := Lib.hid (HS.out.trans (if_pos ⟨hbig, h13, h10, hfit⟩))
            have T := Lib.hid (TT.out (q + 2) n hfit)
            clear h13 h10 PT13 PF13 PT10 PF10 TT TF HS
            go_wp2_with fail
            refine P1.out.mono ?_
            rintro e w2 ⟨rfl, hc2, hb2⟩
            have P2 := Lib.hid (P2.out w2 (hc2.out.cast (by omega)))
            have HB2 := Lib.hid (HB.out.trans hb2)
            clear hb2 P1
            go_wp2_with fail
            refine P2.out.mono ?_
            rintro e w3 ⟨rfl, hc3, hb3⟩
            have T := Lib.hid (T.out w3 (hc3.out.cast (by omega)))
            have HB3 := Lib.hid (HB2.out.trans hb3)
            clear hb3 P2
            go_wp2_with fail
            refine T.out.mono ?_
            rintro e w4 ⟨rfl, hc4, hb4⟩
            have HB4 := Lib.hid (HB3.out.trans hb4)
            clear hb4 T
            go_wp2_with fail
            go_ret2
            exact ⟨Or.inl ⟨q + 2, n, hfit, HR.out, rfl, hc4.out.cast (by omega)⟩, HB4.out⟩
          · have HR := Lib.hid (HS.out.trans (if_neg (fun hh => hfit hh.2.2.2)))
            have T := Lib.hid (TF.out (q + 2) n (by omega) (by omega))
            clear h13 h10 PT13 PF13 PT10 PF10 TT TF HS
            go_wp2_with fail
            refine P1.out.mono ?_
            rintro e w2 ⟨rfl, hc2, hb2⟩
            have P2 := Lib.hid (P2.out w2 (hc2.out.cast (by omega)))
            have HB2 := Lib.hid (HB.out.trans hb2)
            clear hb2 P1
            go_wp2_with fail
            refine P2.out.mono ?_
            rintro e w3 ⟨rfl, hc3, hb3⟩
            have T := Lib.hid (T.out w3 (hc3.out.cast (by omega)))
            have HB3 := Lib.hid (HB2.out.trans hb3)
            clear hb3 P2
            go_wp2_with fail
            refine T.out.mono ?_
            rintro e w4 ⟨rfl, hc4, hb4⟩
            have HB4 := Lib.hid (HB3.out.trans hb4)
            clear hb4 T
            go_wp2_with fail
            go_ret2
            exact ⟨Or.inr ⟨HR.out, rfl⟩, HB4.out⟩
        · have HR := Lib.hid (HS.out.trans (if_neg (fun hh => h10 hh.2.2.1)))
          have P2 := Lib.hid (PF10.out (q + 1) (by omega) h10)
          clear h13 h10 PT13 PF13 PT10 PF10 TT TF HS
          go_wp2_with fail
          refine P1.out.mono ?_
          rintro e w2 ⟨rfl, hc2, hb2⟩
          have P2 := Lib.hid (P2.out w2 (hc2.out.cast (by omega)))
          have HB2 := Lib.hid (HB.out.trans hb2)
          clear hb2 P1
          go_wp2_with fail
          refine P2.out.mono ?_
          rintro e w3 ⟨rfl, hc3, hb3⟩
          have HB3 := Lib.hid (HB2.out.trans hb3)
          clear hb3 P2
          go_wp2_with fail
          go_ret2
          exact ⟨Or.inr ⟨HR.out, rfl⟩, HB3.out⟩
      · have HR := Lib.hid (HS.out.trans (if_neg (fun hh => h13 hh.2.1)))
        have P1 := Lib.hid (PF13.out q (by omega) h13 w1 HC.out)
        clear h13 PT13 PF13 PT10 PF10 TT TF HS
        go_wp2_with fail
        refine P1.out.mono ?_
        rintro e w2 ⟨rfl, hc2, hb2⟩
        have HB2 := Lib.hid (HB.out.trans hb2)
        clear hb2 P1
        go_wp2_with fail
        go_ret2
        exact ⟨Or.inr ⟨HR.out, rfl⟩, HB2.out⟩
    · have HR := Lib.hid (HS.out.trans (if_neg (fun hh => hbig hh.1)))
      have e1 : decide (65536 < (n : Int)) = true := by simp; omega
      clear hbig PT13 PF13 PT10 PF10 TT TF HS
      go_wp2_with fail
      go_ret2
      exact ⟨Or.inr ⟨HR.out, rfl⟩, HB.out⟩
  · have HR := Lib.hid (scanL_none ha)
    clear ha
    go_wp2_with fail
    go_ret2
    exact ⟨Or.inr ⟨HR.out, rfl⟩, hb⟩
end Go.Proofs.YtpklpfncohdlhaaDoor
