/- The laws EventSqueezes and EventNames. -/
import Derived.Test.YtfmloifgngembaaL15Z
import Derived.Test.YtfmloifgngembaaRf15F
namespace Go.Proofs.Ytfmloifgngembaa
open Go.RowKit

set_option maxRecDepth 100000 in
set_option maxHeartbeats 2000000 in
theorem squeezes_main (A : Option Addr) (c : Nat) (l : List EvI) (hl : l.length ≤ 100) (hok : ∀ x ∈ l, evOk x) (w : World) (hS : SlAt encEv 3 w A l) :
    Calls Try.prog 4 #[.slice A l.length c] w fun e w' => e = .returned (.bool true) ∧ Below w.heap.size w w' := by
  obtain ⟨i0, hi, hz0, hz1, hz2⟩ := info_parts infoEv
  have h1 : ¬ (100 : Int) < (l.length : Int) := by omega
  have AL := Lib.hid (fun W => alive15_any W)
  have HS0 := Lib.hid hS
  have HS := Lib.hid (hS.below (below_al w (.cells #[] 39)))
  have HOE := Lib.hid (own_empty (sz := 3) (heap_alloc_new w (.cells #[] 39)) (Nat.le_refl _))
  have H63 := Lib.hid (show 0 + l.length ≤ maxLen by unfold maxLen; omega)
  have HBY := Lib.hid (show (0 + l.length) * 16 ≤ 140737488355328 by omega)
  have HB0 := Lib.hid (below_al w (.cells #[] 39))
  have HSZ := Lib.hid HB0.out.size
  have HOK := Lib.hid hok
  have HSL := Lib.hid (sqE_len l)
  have HTW := Lib.hid (sqE_twice l)
  have HOK2 := Lib.hid (show ∀ x ∈ sqE l, evOk x from fun x hx => hok x (sqE_sub hx))
  clear hS hok
  go_enter Try.func4, Try.ntmps4
  go_wp2_with (at_builtin; refine wpList_append_sl _ rfl _ _ 28 rfl w.heap.size 39 i0 _ 16 Try.underlying28 hi hz0 hz1 hz2 rfl (by decide) _ 0 [] rfl HOE.out A l c rfl encEv_len HS.out (one_flatEv l) H63.out HBY.out HSZ.out ?_; intro v2 w2 hown2 hg2; rw [Nat.zero_add, List.nil_append] at hown2; obtain ⟨A2, c2, rfl⟩ := own_any hown2; have HB2 := Lib.hid (HB0.out.grown hg2 HSZ.out (fun kk hkk => (HOE.out.lt kk hkk).1)); have HO2 := Lib.hid hown2; have SQ := Lib.hid (qsqueeze_any A2 c2 l (by omega) HOK.out w2 (SlAt.of_own encEv_len hown2)); clear hown2 hg2 HOE HS HB0)
  refine SQ.out.mono ?_
  rintro e w3 ⟨v3, rfl, h3, hb3⟩
  obtain ⟨A3, c3, rfl⟩ := own_any h3
  have HB3 := Lib.hid (HB2.out.trans (hb3.mono HB2.out.size))
  have HO3 := Lib.hid (own_below HO2.out hb3)
  have HR3 := Lib.hid (own_mono h3 HB2.out.size)
  clear h3 hb3 SQ HO2 HB2
  generalize hsq : sqE l = s at *
  have HSQ := Lib.hid hsq
  clear hsq
  go_wp2_with fail
  refine (AL.out _).mono ?_
  rintro e w4 ⟨rfl, hb4⟩
  have HB4 := Lib.hid (HB3.out.trans (hb4.mono HB3.out.size))
  have HO4 := Lib.hid (own_below HO3.out hb4)
  have HR4 := Lib.hid (own_below HR3.out hb4)
  have RS := Lib.hid (rsqueeze15_any (c := c) (w := w4) (by omega) (HS0.out.below HB4.out))
  clear hb4 AL HB3 HO3 HR3
  go_wp2_with fail
  refine RS.out.mono ?_
  rintro e w5 ⟨v5, rfl, h5, hb5⟩
  rw [HSQ.out] at h5
  obtain ⟨A5, c5, rfl⟩ := own_any h5
  have HB5 := Lib.hid (HB4.out.trans (hb5.mono HB4.out.size))
  have HO5 := Lib.hid (own_below HO4.out hb5)
  have HR5 := Lib.hid (own_below HR4.out hb5)
  have hsl := HSL.out
  have E1 := equalEv_any A3 A5 c3 c5 s s (by omega) (by omega) w5 (SlAt.of_own encEv_len HR5.out) (SlAt.of_own encEv_len h5)
  rw [decide_eq_true rfl] at E1
  have E1 := Lib.hid E1
  clear h5 hb5 RS HB4 HO4 HR4 hsl
  go_wp2_with fail
  refine E1.out.mono ?_
  rintro e w6 ⟨rfl, hb6⟩
  have HB6 := Lib.hid (HB5.out.trans (hb6.mono HB5.out.size))
  have HO6 := Lib.hid (own_below HO5.out hb6)
  have HR6 := Lib.hid (own_below HR5.out hb6)
  have S2 := Lib.hid (qsqueeze_any A3 c3 s (by have := HSL.out; omega) HOK2.out w6 (SlAt.of_own encEv_len HR6.out))
  clear hb6 E1 HB5 HO5 HR5
  go_wp2_with fail
  refine S2.out.mono ?_
  rintro e w7 ⟨v7, rfl, h7, hb7⟩
  rw [HTW.out] at h7
  obtain ⟨A7, c7, rfl⟩ := own_any h7
  have HB7 := Lib.hid (HB6.out.trans (hb7.mono HB6.out.size))
  have HO7 := Lib.hid (own_below HO6.out hb7)
  have HR7 := Lib.hid (own_below HR6.out hb7)
  have hsl := HSL.out
  have E2 := equalEv_any A7 A3 c7 c3 s s (by omega) (by omega) w7 (SlAt.of_own encEv_len h7) (SlAt.of_own encEv_len HR7.out)
  rw [decide_eq_true rfl] at E2
  have E2 := Lib.hid E2
  clear h7 hb7 S2 HB6 HO6 HR6 hsl
  go_wp2_with fail
  refine E2.out.mono ?_
  rintro e w8 ⟨rfl, hb8⟩
  have HB8 := Lib.hid (HB7.out.trans (hb8.mono HB7.out.size))
  have HO8 := own_below HO7.out hb8
  have E3 := equalEv_any A2 A c2 c l l (by omega) (by omega) w8 (SlAt.of_own encEv_len HO8) (HS0.out.below HB8.out)
  rw [decide_eq_true rfl] at E3
  have E3 := Lib.hid E3
  clear hb8 E2 HB7 HO7 HR7 HO8
  go_wp2_with fail
  refine E3.out.mono ?_
  rintro e w9 ⟨rfl, hb9⟩
  have HB9 := Lib.hid (HB8.out.trans (hb9.mono HB8.out.size))
  clear hb9 E3 HB8
  go_wp2_with fail
  go_ret
  exact ⟨rfl, HB9.out⟩
theorem eventSqueezes_law (A : Option Addr) (c : Nat) (l : List EvI) (hlm : l.length ≤ maxLen) (hok : ∀ x ∈ l, evOk x) (w : World) (hS : SlAt encEv 3 w A l) :
    Calls Try.prog 4 #[.slice A l.length c] w fun e w' => e = .returned (.bool true) ∧ Below w.heap.size w w' := by
  unfold maxLen at hlm
  by_cases h1 : l.length ≤ 100
  · exact squeezes_main A c l h1 hok w hS
  · have h1i : (100 : Int) < (l.length : Int) := by omega
    have AL := Lib.hid (fun W => alive15_any W)
    clear h1 hS hok
    generalize l.length = n1 at *
    go_enter Try.func4, Try.ntmps4
    go_wp2_with fail
    refine (AL.out _).mono ?_
    rintro e w1 ⟨rfl, hb⟩
    go_wp2_with fail
    go_ret
    exact ⟨rfl, hb⟩
set_option maxRecDepth 100000 in
set_option maxHeartbeats 2000000 in
theorem eventNames_law (k : Int) (hk1 : -9223372036854775808 ≤ k) (hk2 : k ≤ 9223372036854775807) (w : World) :
    Calls Try.prog 8 #[.int .i64 k] w fun e w' => e = .returned (.bool true) ∧ Below w.heap.size w w' := by
  have AL := Lib.hid (fun W => alive15_any W)
  have NM := Lib.hid (fun W => qname_any k ⟨hk1, hk2⟩ W)
  by_cases h1 : 1 ≤ k
  · by_cases h3 : k ≤ 3
    · have hc : k = 1 ∨ k = 2 ∨ k = 3 := by omega
      have BA := Lib.hid (below_al w (.cells #[.string ⟨#[97, 114, 114, 105, 118, 101, 100]⟩, .string ⟨#[103, 111, 110, 101]⟩, .string ⟨#[99, 104, 97, 110, 103, 101, 100]⟩] 9))
      rcases hc with rfl | rfl | rfl
      · have HN := Lib.hid (show nameE 1 = ⟨#[97, 114, 114, 105, 118, 101, 100]⟩ by decide)
        rw [HN.out] at NM
        go_enter Try.func8, Try.ntmps8
        go_wp2_with fail
        refine (AL.out _).mono ?_
        rintro e w1 ⟨rfl, hb1⟩
        have HB1 := Lib.hid (below_next BA.out hb1)
        clear hb1 BA AL
        go_wp2_with fail
        refine (NM.out _).mono ?_
        rintro e w2 ⟨rfl, hb2⟩
        have HB2 := Lib.hid (below_next HB1.out hb2)
        clear hb2 HB1 NM
        go_wp2_with fail
        go_ret
        exact ⟨rfl, HB2.out⟩
      · have HN := Lib.hid (show nameE 2 = ⟨#[103, 111, 110, 101]⟩ by decide)
        rw [HN.out] at NM
        go_enter Try.func8, Try.ntmps8
        go_wp2_with fail
        refine (AL.out _).mono ?_
        rintro e w1 ⟨rfl, hb1⟩
        have HB1 := Lib.hid (below_next BA.out hb1)
        clear hb1 BA AL
        go_wp2_with fail
        refine (NM.out _).mono ?_
        rintro e w2 ⟨rfl, hb2⟩
        have HB2 := Lib.hid (below_next HB1.out hb2)
        clear hb2 HB1 NM
        go_wp2_with fail
        go_ret
        exact ⟨rfl, HB2.out⟩
      · have HN := Lib.hid (show nameE 3 = ⟨#[99, 104, 97, 110, 103, 101, 100]⟩ by decide)
        rw [HN.out] at NM
        go_enter Try.func8, Try.ntmps8
        go_wp2_with fail
        refine (AL.out _).mono ?_
        rintro e w1 ⟨rfl, hb1⟩
        have HB1 := Lib.hid (below_next BA.out hb1)
        clear hb1 BA AL
        go_wp2_with fail
        refine (NM.out _).mono ?_
        rintro e w2 ⟨rfl, hb2⟩
        have HB2 := Lib.hid (below_next HB1.out hb2)
        clear hb2 HB1 NM
        go_wp2_with fail
        go_ret
        exact ⟨rfl, HB2.out⟩
    · have HN := Lib.hid (show nameE k = ⟨#[]⟩ by unfold nameE; rw [if_neg (by omega), if_neg (by omega), if_neg (by omega)])
      rw [HN.out] at NM
      go_enter Try.func8, Try.ntmps8
      go_wp2_with fail
      refine (AL.out _).mono ?_
      rintro e w1 ⟨rfl, hb1⟩
      have HB1 := Lib.hid hb1
      clear hb1 AL
      go_wp2_with fail
      refine (NM.out _).mono ?_
      rintro e w2 ⟨rfl, hb2⟩
      have HB2 := Lib.hid (below_next HB1.out hb2)
      clear hb2 HB1 NM
      go_wp2_with fail
      go_ret
      exact ⟨rfl, HB2.out⟩
  · have HN := Lib.hid (show nameE k = ⟨#[]⟩ by unfold nameE; rw [if_neg (by omega), if_neg (by omega), if_neg (by omega)])
    rw [HN.out] at NM
    go_enter Try.func8, Try.ntmps8
    go_wp2_with fail
    refine (AL.out _).mono ?_
    rintro e w1 ⟨rfl, hb1⟩
    have HB1 := Lib.hid hb1
    clear hb1 AL
    go_wp2_with fail
    refine (NM.out _).mono ?_
    rintro e w2 ⟨rfl, hb2⟩
    have HB2 := Lib.hid (below_next HB1.out hb2)
    clear hb2 HB1 NM
    go_wp2_with fail
    go_ret
    exact ⟨rfl, HB2.out⟩
end Go.Proofs.Ytfmloifgngembaa
