/- The walk of the law IndexBetween; what the laws share. -/
import Derived.Test.YtkehlknnonppjaaAlive12
namespace Go.Proofs.Ytkehlknnonppjaa
open Go.RowKit

theorem bet_full {O : List Nat} (h : ∀ n ∈ O, 0 < n ∧ n ≤ 4294967295) : betL O 0 4294967295 = O := by
  unfold betL
  refine List.filter_eq_self.2 fun y hy => ?_
  have := h y hy
  simp
  omega
theorem isSet_len {O l : List Nat} (h : IsSet O l) : O.length ≤ l.length := by
  obtain ⟨P, h1, h2⟩ := isSet_ex l
  rw [h.det h1]
  exact h2
/-- Both lists are made: the index, and the reference's. -/
theorem eq_call {A B : Option Addr} {c d : Nat} {l : List Nat} {w : World} (hl : l.length ≤ 100000) (h1 : SlAt encU 1 w A l) (h2 : SlAt encU 1 w B l) :
    Calls Try.prog 17 #[.slice A l.length c, .slice B l.length d] w fun e w' => e = .returned (.bool true) ∧ Below w.heap.size w w' := by
  have := equalU_any A B c d l l (by omega) (by omega) w h1 h2
  rwa [decide_eq_true rfl] at this

set_option maxRecDepth 100000 in
set_option maxHeartbeats 2000000 in
theorem indexBetween_any (A : Option Addr) (c : Nat) (l : List Nat) (_ : l.length ≤ maxLen) (hb : ∀ n ∈ l, n ≤ 4294967295) (lo : Nat) (_ : lo ≤ 4294967295) (hi : Nat) (_ : hi ≤ 4294967295) (w : World) (hS : SlAt encU 1 w A l) :
    Calls Try.prog 5 #[.slice A l.length c, .int .u32 lo, .int .u32 hi] w fun e w' => e = .returned (.bool true) ∧ Below w.heap.size w w' := by
  have AL := fun W => Lib.hid (alive12_any W)
  by_cases h100 : l.length ≤ 100
  · have hg : ¬ (100 : Int) < (l.length : Int) := by omega
    obtain ⟨O, hO, hOl⟩ := isSet_ex l
    have NW := Lib.hid (new_any A c l O (by omega) hb hO w hS)
    have RN := Lib.hid (fun w1 (h : Below w.heap.size w w1) => rnew_any (A := A) (c := c) O (by omega) hb hO (hS.below h))
    clear hS hb hO
    go_enter Try.func5, Try.ntmps5
    go_wp2_with fail
    refine NW.out.mono ?_
    rintro e w1 ⟨g, r, rfl, hgw, hrw, X1, B1⟩
    have R1 := Lib.hid (RN.out w1 B1.out)
    clear NW RN
    go_wp2_with fail
    refine R1.out.mono ?_
    rintro e w2 ⟨v2, rfl, ho2, hb2⟩
    obtain ⟨A2, c2, rfl⟩ := own_any ho2
    have X2 := Lib.hid (X1.out.below hb2)
    have S2 := Lib.hid (SlAt.of_own encU_len ho2)
    have B2 := Lib.hid (below_next B1.out hb2)
    have hpos := Lib.hid X2.out.pos
    clear R1 X1 B1 ho2 hb2
    go_wp2_with fail
    refine (AL _).out.mono ?_
    rintro e w3 ⟨rfl, hb3⟩
    have X3 := Lib.hid (X2.out.below hb3)
    have S3 := Lib.hid (S2.out.below hb3)
    have B3 := Lib.hid (below_next B2.out hb3)
    have BT := Lib.hid (between_any lo hi (.inr ⟨rfl, X3.out⟩) (.inr ⟨X3.out.lt, X3.out.ltr⟩) (by omega) X3.out.asc)
    clear X2 S2 B2 hb3 AL
    go_wp2_with fail
    refine BT.out.mono ?_
    rintro e w4 ⟨v4, rfl, ho4, hb4⟩
    obtain ⟨A4, c4, rfl⟩ := own_any ho4
    have X4 := Lib.hid (X3.out.below hb4)
    have S4 := Lib.hid (S3.out.below hb4)
    have B4 := Lib.hid (below_next B3.out hb4)
    have Y4 := Lib.hid (SlAt.of_own encU_len ho4)
    have RB := Lib.hid (rbetween_any (A := A2) (c := c2) lo hi (by omega) S4.out)
    have hbl : (betL O lo hi).length ≤ 100 := by have := List.length_filter_le (fun y => decide (lo ≤ y) && decide (y ≤ hi)) O; unfold betL; omega
    clear BT X3 S3 B3 ho4 hb4
    generalize betL O lo hi = Q at *
    go_wp2_with fail
    refine RB.out.mono ?_
    rintro e w5 ⟨v5, rfl, ho5, hb5⟩
    obtain ⟨A5, c5, rfl⟩ := own_any ho5
    have X5 := Lib.hid (X4.out.below hb5)
    have S5 := Lib.hid (S4.out.below hb5)
    have B5 := Lib.hid (below_next B4.out hb5)
    have EQ := Lib.hid (eq_call (c := c4) (d := c5) (by omega) (Y4.out.below hb5) (SlAt.of_own encU_len ho5))
    clear RB X4 S4 B4 Y4 ho5 hb5
    go_wp2_with fail
    refine EQ.out.mono ?_
    rintro e w6 ⟨rfl, hb6⟩
    have X6 := Lib.hid (X5.out.below hb6)
    have S6 := Lib.hid (S5.out.below hb6)
    have B6 := Lib.hid (below_next B5.out hb6)
    have BF := between_any 0 4294967295 (.inr ⟨rfl, X6.out⟩) (.inr ⟨X6.out.lt, X6.out.ltr⟩) (by omega) X6.out.asc
    rw [bet_full hpos.out] at BF
    have BF := Lib.hid BF
    clear EQ X5 S5 B5 hb6
    go_wp2_with fail
    refine BF.out.mono ?_
    rintro e w7 ⟨v7, rfl, ho7, hb7⟩
    obtain ⟨A7, c7, rfl⟩ := own_any ho7
    have B7 := Lib.hid (below_next B6.out hb7)
    have EQ := Lib.hid (eq_call (c := c7) (d := c2) (by omega) (SlAt.of_own encU_len ho7) (S6.out.below hb7))
    clear BF X6 S6 B6 ho7 hb7
    go_wp2_with fail
    refine EQ.out.mono ?_
    rintro e w8 ⟨rfl, hb8⟩
    have B8 := Lib.hid (below_next B7.out hb8)
    clear EQ B7 hb8
    go_wp2_with fail
    go_ret
    exact ⟨rfl, B8.out⟩
  · have hg : (100 : Int) < (l.length : Int) := by omega
    clear hS hb
    go_enter Try.func5, Try.ntmps5
    go_wp2_with fail
    refine (AL _).out.mono ?_
    rintro e w3 ⟨rfl, hb3⟩
    have hb3 := Lib.hid hb3
    go_wp2_with fail
    go_ret
    exact ⟨rfl, hb3.out⟩
end Go.Proofs.Ytkehlknnonppjaa
