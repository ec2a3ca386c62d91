/- The law FrameBig, its walk. -/
import Derived.Test.YtldlghfjinpnkaaDoorL5L
namespace Go.Proofs.YtldlghfjinpnkaaDoor
open Go.RowKit
open Go.Lib hiding intOf

def headL : List UInt8 := [97, 32, 123, 54, 53, 53, 51, 54, 125, 13, 10]
def headG : List UInt8 := [97, 32, 123, 54, 53, 53, 51, 55, 125, 13, 10]
theorem dec_65536 : decDigits 65536 = [54, 53, 53, 51, 54] := by
  rw [decDigits, decDigits, decDigits, decDigits, decDigits]; rfl
theorem dec_65537 : decDigits 65537 = [54, 53, 53, 51, 55] := by
  rw [decDigits, decDigits, decDigits, decDigits, decDigits]; rfl
theorem step_headL (rest : List UInt8) : stepF (headL ++ rest) 0 = some (⟨2, []⟩, headL ++ rest, 9 + 2 + 65536) := by
  have h0 : stepF headL 0 = some (⟨2, []⟩, headL, 9 + 2 + 65536) := stepF_ready (e := 9) (n := 65536) (by decide +kernel) (by omega) (annOf_yes ⟨by omega, [97, 32], by rw [dec_65536]; rfl⟩) (by omega)
  exact stepF_append rest h0
theorem step_headG (rest : List UInt8) : stepF (headG ++ rest) 0 = some (⟨4, [97, 32, 123, 54, 53, 53, 51, 55, 125]⟩, rest, 0) := by
  have h0 : stepF headG 0 = some (⟨4, [97, 32, 123, 54, 53, 53, 51, 55, 125]⟩, [], 0) := stepF_big (e := 9) (n := 65537) (by decide +kernel) (by omega) (annOf_yes ⟨by omega, [97, 32], by rw [dec_65537]; rfl⟩) (by omega)
  exact stepF_append rest h0
theorem runs_lit {q : Nat} (hq : q = 65536) : Runs (headL ++ (List.replicate q 120 ++ [13, 10])) 0 [⟨2, []⟩, ⟨1, headL ++ List.replicate q 120⟩] [] 0 := by
  have h2 := step_short (pre := headL ++ List.replicate q 120) (post := []) (x := 120) (n := 0) (by decide) (by decide) (by omega)
  have hl : (headL ++ List.replicate q 120).length = 9 + 2 + 65536 := by rw [List.length_append, List.length_replicate, hq]; rfl
  have ha : (headL ++ List.replicate q 120) ++ (List.replicate 0 120 ++ 13 :: 10 :: []) = headL ++ (List.replicate q 120 ++ [13, 10]) := by rw [List.replicate_zero, List.nil_append, List.append_assoc]
  rw [hl, ha, List.replicate_zero, List.append_nil] at h2
  exact .cons (step_headL _) (.cons h2 (.nil _ _))
theorem runs_big {q p : Nat} (hq : q = 65536) (hp : p = 8192) : Runs (headG ++ (List.replicate q 120 ++ [13, 10])) 0 [⟨4, [97, 32, 123, 54, 53, 53, 51, 55, 125]⟩, ⟨3, List.replicate p 120⟩] [] 0 := by
  have h2 := step_long (pre := []) (post := []) (x := 120) (n := q) (by decide) (by omega)
  rw [← hp] at h2
  exact .cons (step_headG _) (.cons h2 (.nil _ _))

set_option maxRecDepth 100000 in
set_option maxHeartbeats 4000000 in
theorem frameBig_any (m : Nat) (hm : m ≤ 255) (W : World) (henv : EnvB W.heap.size W) :
    Calls Tryd.prog 6 #[.int .u8 (m : Int)] W fun e W' => e = .returned (.bool true) ∧ Below W.heap.size W W' := by
  obtain ⟨q, hq⟩ : ∃ q : Nat, q = 65536 := ⟨_, rfl⟩
  obtain ⟨p, hp⟩ : ∃ p : Nat, p = 8192 := ⟨_, rfl⟩
  have RP := Lib.hid (show Calls Tryd.prog 17 #[.string ⟨#[120]⟩, .int .i64 65536] W (fun e w' => e = .returned (.string ⟨Array.replicate q 120⟩) ∧ Below W.heap.size W w') from by
    have := repeat_any 120 q (by omega) W
    rw [show ((q : Nat) : Int) = 65536 by omega, List.toArray_replicate] at this
    exact this)
  have HE := Lib.hid henv
  have HQ := Lib.hid hq
  have HP := Lib.hid hp
  clear henv hq hp
  have hqle : q ≤ 100000 := by have := HQ.out; omega
  rcases Nat.mod_two_eq_zero_or_one m with h2 | h2
  · have e1 : (65536 : Int) + (m : Int) % 2 = 65536 := by omega
    have HR := Lib.hid (runs_lit HQ.out)
    go_enter Tryd.func6, Tryd.ntmps6
    go_wp2_with fail
    refine RP.out.mono ?_
    rintro e w1 ⟨rfl, hb1⟩
    obtain ⟨cap, w2, hcv, hb2, hby2, hcap2, hs2, _⟩ := convB w1 (⟨#[97, 32, 123, 54, 53, 53, 51, 54, 125, 13, 10]⟩ ++ ⟨Array.replicate q 120⟩ ++ ⟨#[13, 10]⟩) (q + 13) (by simp [ByteArray.size]; omega)
    rw [show (ByteArray.data (⟨#[97, 32, 123, 54, 53, 53, 51, 54, 125, 13, 10]⟩ ++ ⟨Array.replicate q 120⟩ ++ ⟨#[13, 10]⟩)).toList = headL ++ (List.replicate q 120 ++ [13, 10]) by simp [headL]] at hby2
    have HB2 := Lib.hid (below_next hb1 hb2)
    have SP := Lib.hid (split_any _ cap (q + 13) _ _ (by simp [headL]) (by have := HQ.out; omega) (short_known HR.out (endOf_past (by decide)) (by simp)) w2 (HE.out.step' HB2.out) hby2)
    clear hb1 hb2 hby2 RP
    go_wp2_with fail
    go_simp
    go_wp2_with fail
    refine SP.out.mono ?_
    rintro e w3 hp
    obtain ⟨v, vs, he, ho, hf, hb⟩ := split_is hp HR.out (endOf_past (by decide))
    subst he
    obtain ⟨g, c, A0, c0, A1, c1, rfl, h0, h1, h2, h3, b0, b1⟩ := two5 ho hf
    have h0' : w3.cell? ⟨g, 0, none⟩ = some (.int .i64 2) := h0
    have h2' : w3.cell? ⟨g, 2, none⟩ = some (.int .i64 1) := h2
    have hL : (headL ++ List.replicate q 120).length = 65547 := by rw [List.length_append, List.length_replicate, HQ.out]; rfl
    have h3' : w3.cell? ⟨g, 3, none⟩ = some (.slice A1 65547 c1) := by rw [← hL]; exact h3
    have HB3 := Lib.hid (below_next HB2.out hb)
    have AL3 := Lib.hid (alive5_any w3 (HE.out.step' HB3.out))
    have HBY := Lib.hid b0
    clear hp ho hf hb b0 b1 SP h0 h1 h2 h3 HB2 hcv HR
    have hgl : g < w3.heap.size := (World.block_lt_of_cell? w3 ⟨g, 0, none⟩ h0')
    go_wp2_with fail
    refine AL3.out.mono ?_
    rintro e w4 ⟨rfl, hb4⟩
    have k0 := (hb4.cell (p := ⟨g, 0, none⟩) hgl).trans h0'
    have k2 := (hb4.cell (p := ⟨g, 2, none⟩) hgl).trans h2'
    have k3 := (hb4.cell (p := ⟨g, 3, none⟩) hgl).trans h3'
    clear h0' h2' h3' AL3
    go_wp2_with fail
    go_ret
    exact ⟨rfl, below_next HB3.out hb4⟩
  · have e1 : (65536 : Int) + (m : Int) % 2 = 65537 := by omega
    have HR := Lib.hid (runs_big HQ.out HP.out)
    go_enter Tryd.func6, Tryd.ntmps6
    go_wp2_with fail
    refine RP.out.mono ?_
    rintro e w1 ⟨rfl, hb1⟩
    obtain ⟨cap, w2, hcv, hb2, hby2, hcap2, hs2, _⟩ := convB w1 (⟨#[97, 32, 123, 54, 53, 53, 51, 55, 125, 13, 10]⟩ ++ ⟨Array.replicate q 120⟩ ++ ⟨#[13, 10]⟩) (q + 13) (by simp [ByteArray.size]; omega)
    rw [show (ByteArray.data (⟨#[97, 32, 123, 54, 53, 53, 51, 55, 125, 13, 10]⟩ ++ ⟨Array.replicate q 120⟩ ++ ⟨#[13, 10]⟩)).toList = headG ++ (List.replicate q 120 ++ [13, 10]) by simp [headG]] at hby2
    have HB2 := Lib.hid (below_next hb1 hb2)
    have SP := Lib.hid (split_any _ cap (q + 13) _ _ (by simp [headG]) (by have := HQ.out; omega) (short_known HR.out (endOf_past (by decide)) (by simp)) w2 (HE.out.step' HB2.out) hby2)
    clear hb1 hb2 hby2 RP
    go_wp2_with fail
    go_simp
    go_wp2_with fail
    refine SP.out.mono ?_
    rintro e w3 hp
    obtain ⟨v, vs, he, ho, hf, hb⟩ := split_is hp HR.out (endOf_past (by decide))
    subst he
    obtain ⟨g, c, A0, c0, A1, c1, rfl, h0, h1, h2, h3, b0, b1⟩ := two5 ho hf
    have h0' : w3.cell? ⟨g, 0, none⟩ = some (.int .i64 4) := h0
    have h1' : w3.cell? ⟨g, 1, none⟩ = some (.slice A0 9 c0) := h1
    have h2' : w3.cell? ⟨g, 2, none⟩ = some (.int .i64 3) := h2
    have HB3 := Lib.hid (below_next HB2.out hb)
    have AL3 := Lib.hid (alive5_any w3 (HE.out.step' HB3.out))
    have HBY := Lib.hid b0
    clear hp ho hf hb b0 b1 SP h0 h1 h2 h3 HB2 hcv HR
    have hgl : g < w3.heap.size := (World.block_lt_of_cell? w3 ⟨g, 0, none⟩ h0')
    go_wp2_with fail
    refine AL3.out.mono ?_
    rintro e w4 ⟨rfl, hb4⟩
    have k0 := (hb4.cell (p := ⟨g, 0, none⟩) hgl).trans h0'
    have k1 := (hb4.cell (p := ⟨g, 1, none⟩) hgl).trans h1'
    have k2 := (hb4.cell (p := ⟨g, 2, none⟩) hgl).trans h2'
    have hcv4 := convS _ w4 A0 c0 9 _ (HBY.out.below hb4) rfl
    clear h0' h1' h2' AL3
    go_wp2_with fail
    go_ret
    exact ⟨rfl, below_next HB3.out hb4⟩
end Go.Proofs.YtldlghfjinpnkaaDoor
