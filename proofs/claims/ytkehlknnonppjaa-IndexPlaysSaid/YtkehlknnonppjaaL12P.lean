/- The walk of the law IndexPlaces. -/
import Derived.Test.YtkehlknnonppjaaL12B
namespace Go.Proofs.Ytkehlknnonppjaa
open Go.RowKit

theorem atL_at {O : List Nat} {k : Nat} (h : k < O.length) : atL O ((k : Int) + 1) = (O[k], true) := by
  unfold atL
  rw [if_pos ⟨by omega, by omega⟩, show ((k : Int) + 1 - 1).toNat = k by omega, getElem!_pos O k h]
theorem posL_at {O : List Nat} (ha : O.Pairwise (· < ·)) {k : Nat} (h : k < O.length) : posL O O[k] = k + 1 := by
  unfold posL
  rw [if_pos (List.getElem_mem h), cnt_at ha h]

set_option maxRecDepth 100000 in
set_option maxHeartbeats 2000000 in
theorem indexPlaces_any (A : Option Addr) (c : Nat) (l : List Nat) (_ : l.length ≤ maxLen) (hb : ∀ n ∈ l, n ≤ 4294967295) (u : Nat) (_ : u ≤ 4294967295) (p : Int) (hp1 : -9223372036854775808 ≤ p) (hp2 : p ≤ 9223372036854775807) (w : World) (hS : SlAt encU 1 w A l) :
    Calls Try.prog 4 #[.slice A l.length c, .int .u32 u, .int .i64 p] w fun e w' => e = .returned (.bool true) ∧ Below w.heap.size w w' := by
  have AL := fun W => Lib.hid (alive12_any W)
  by_cases h100 : l.length ≤ 100
  · have hg : ¬ (100 : Int) < (l.length : Int) := by omega
    obtain ⟨O, hO, hOl⟩ := isSet_ex l
    have NW := Lib.hid (new_any A c l O (by omega) hb hO w hS)
    have RN := Lib.hid (fun w1 (h : Below w.heap.size w w1) => rnew_any (A := A) (c := c) O (by omega) hb hO (hS.below h))
    clear hS hb hO
    go_enter Try.func4, Try.ntmps4
    go_wp2_with fail
    refine NW.out.mono ?_
    rintro e w1 ⟨g, r, rfl, hgw, hrw, X1, B1⟩
    have R1 := Lib.hid (RN.out w1 B1.out)
    clear NW RN
    go_wp2_with fail
    refine R1.out.mono ?_
    rintro e w2 ⟨v2, rfl, ho2, hb2⟩
    obtain ⟨A2, c2, rfl⟩ := own_any ho2
    have X2 := Lib.hid (X1.out.below hb2)
    have S2 := Lib.hid (SlAt.of_own encU_len ho2)
    have B2 := Lib.hid (below_next B1.out hb2)
    have HA := Lib.hid X2.out.asc
    clear R1 X1 B1 ho2 hb2
    have PS := Lib.hid (pos_any u X2.out)
    go_wp2_with fail
    refine PS.out.mono ?_
    rintro e w3 ⟨rfl, hb3⟩
    have X3 := Lib.hid (X2.out.below hb3)
    have S3 := Lib.hid (S2.out.below hb3)
    have B3 := Lib.hid (below_next B2.out hb3)
    have RP := Lib.hid (rpos_any (c := c2) u (by omega) HA.out S3.out)
    clear PS X2 S2 B2 hb3
    generalize posL O u = q at *
    go_wp2_with fail
    refine RP.out.mono ?_
    rintro e w4 ⟨rfl, rfl⟩
    clear RP
    go_wp2_with fail
    go_loopw [36] (fun s36 wr => ∃ k : Nat, s36 = .int .i64 k ∧ k ≤ O.length ∧ Hid (Ix g r O wr) ∧ Hid (SlAt encU 1 wr A2 O) ∧ Hid (Below w.heap.size w wr)) (fun s36 _ => O.length - (intOf s36).toNat)
    case atStart => exact ⟨0, rfl, Nat.zero_le _, X3, S3, B3⟩
    case round =>
      obtain ⟨k, rfl, hk, XK, SK, BK⟩ := hrel
      clear X3 S3 B3
      by_cases hlt : k < O.length
      · obtain ⟨b, off, rfl, hbs, hx⟩ := SK.out.one hlt
        have AT := ixat_any ((k : Int) + 1) (by omega) (by omega) XK.out
        rw [atL_at hlt] at AT
        have AT := Lib.hid AT
        have PK := pos_any O[k] XK.out
        rw [posL_at HA.out hlt] at PK
        have PK := Lib.hid PK
        generalize O[k] = x at *
        go_wp2_with fail
        refine AT.out.mono ?_
        rintro e w5 ⟨rfl, rfl⟩
        clear AT
        go_wp2_with fail
        refine PK.out.mono ?_
        rintro e w6 ⟨rfl, hb6⟩
        have X6 := Lib.hid (XK.out.below hb6)
        have S6 := Lib.hid (SK.out.below hb6)
        have B6 := Lib.hid (below_next BK.out hb6)
        clear PK XK SK BK hb6 hx
        go_wp2_with fail
        go_roundw
        case rel => exact ⟨k + 1, by go_num, by omega, X6, S6, B6⟩
        case measure => simp [intOf]; omega
      · have AT := ixat_any p hp1 hp2 XK.out
        unfold atL at AT
        clear SK
        by_cases h1 : 1 ≤ p
        · by_cases h2 : p ≤ O.length
          · rw [if_pos ⟨h1, h2⟩] at AT
            have AT := Lib.hid AT
            generalize O[(p - 1).toNat]! = y at *
            clear XK HA
            go_wp2_with fail
            refine AT.out.mono ?_
            rintro e w4 ⟨rfl, rfl⟩
            clear AT
            go_wp2_with fail
            refine (AL _).out.mono ?_
            rintro e w5 ⟨rfl, hb5⟩
            have B5 := Lib.hid (below_next BK.out hb5)
            clear hb5 BK AL
            go_wp2_with fail
            go_ret
            first | exact ⟨rfl, B5.out⟩ | exact ⟨ret_bool (by simp; omega), B5.out⟩
          · rw [if_neg (by omega)] at AT
            have AT := Lib.hid AT
            clear XK HA
            go_wp2_with fail
            refine AT.out.mono ?_
            rintro e w4 ⟨rfl, rfl⟩
            clear AT
            go_wp2_with fail
            refine (AL _).out.mono ?_
            rintro e w5 ⟨rfl, hb5⟩
            have B5 := Lib.hid (below_next BK.out hb5)
            clear hb5 BK AL
            go_wp2_with fail
            go_ret
            first | exact ⟨rfl, B5.out⟩ | exact ⟨ret_bool (by simp; omega), B5.out⟩
        · rw [if_neg (by omega)] at AT
          have AT := Lib.hid AT
          clear XK HA
          go_wp2_with fail
          refine AT.out.mono ?_
          rintro e w4 ⟨rfl, rfl⟩
          clear AT
          go_wp2_with fail
          refine (AL _).out.mono ?_
          rintro e w5 ⟨rfl, hb5⟩
          have B5 := Lib.hid (below_next BK.out hb5)
          clear hb5 BK AL
          go_wp2_with fail
          go_ret
          first | exact ⟨rfl, B5.out⟩ | exact ⟨ret_bool (by simp; omega), B5.out⟩
  · have hg : (100 : Int) < (l.length : Int) := by omega
    clear hS hb
    go_enter Try.func4, Try.ntmps4
    go_wp2_with fail
    refine (AL _).out.mono ?_
    rintro e w3 ⟨rfl, hb3⟩
    have hb3 := Lib.hid hb3
    go_wp2_with fail
    go_ret
    exact ⟨rfl, hb3.out⟩
end Go.Proofs.Ytkehlknnonppjaa
