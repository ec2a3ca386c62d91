/- The walk of the law SeqsetInverse. -/
import Derived.Test.YtdgcghcigjblaaaDoorL2A
import Derived.Test.YtdgcghcigjblaaaDoorParseMath
namespace Go.Proofs.YtdgcghcigjblaaaDoor
open Go.RowKit

theorem print_none (w : World) (henv : Env w) : Calls Tryd.prog 9 #[.slice none 0 0] w fun e w' => e = .returned (.string ⟨#[]⟩) ∧ Below w.heap.size w w' :=
  print_any none 0 [] (by decide) (by simp) w (.inl rfl) henv

set_option maxRecDepth 100000 in
set_option maxHeartbeats 2000000 in
theorem seqsetInverse_any (A : Option Addr) (c : Nat) (l : List R) (hl : l.length ≤ maxLen) (hb : ∀ r ∈ l, r.1 ≤ 4294967295 ∧ r.2 ≤ 4294967295) (w : World) (henv : Env w) (hS : SlAt encR 2 w A l) :
    Calls Tryd.prog 3 #[.slice A l.length c] w fun e w' => e = .returned (.bool true) ∧ Below w.heap.size w w' := by
  have L := fun w1 (hB : Below w.heap.size w w1) => Lib.hid (alive2_any w1 (henv.below hB))
  have FW := Lib.hid (few_any A l.length c hl w)
  have P0 := fun w1 (hB : Below w.heap.size w w1) => Lib.hid (print_none w1 (henv.below hB))
  by_cases h60 : l.length ≤ 60
  · rw [decide_eq_true h60] at FW
    by_cases hl0 : l = []
    · subst hl0
      clear henv hS hb
      simp only [List.length_nil] at FW ⊢
      go_enter Tryd.func3, Tryd.ntmps3
      go_wp2_with fail
      refine FW.out.mono ?_
      rintro e w1 ⟨rfl, rfl⟩
      go_wp2_with fail
      refine (L _ (Below.refl _ _)).out.mono ?_
      rintro e w1 ⟨rfl, hB⟩
      go_wp2_with fail
      refine (P0 _ hB).out.mono ?_
      rintro e w2 ⟨rfl, h2⟩
      have hB := below_next hB h2
      clear L FW P0 h2
      go_wp2_with fail
      go_ret
      exact ⟨rfl, hB⟩
    · have hpos : 0 < l.length := List.length_pos_iff.2 hl0
      have hn : l.length ≤ 1000000000 := by omega
      have PR := Lib.hid (print_any A c l hn hb w hS henv)
      have RP := fun w1 (hB : Below w.heap.size w w1) => Lib.hid (refPrint_any A c l hn hb w1 (hS.below hB))
      have hpl := printL_len l hb l.length (Nat.le_refl _)
      rw [List.take_length] at hpl
      have PA := fun w1 (hB : Below w.heap.size w w1) => parse_any ⟨(printL l).toArray⟩ (by show (printL l).toArray.size ≤ _; simp; omega) w1 (henv.below hB)
      rw [show (ByteArray.mk (printL l).toArray).data.toList = printL l from rfl, parse_print hl0 hb] at PA
      have PA := fun w1 (hB : Below w.heap.size w w1) => Lib.hid (show Calls Tryd.prog 10 #[.string ⟨(printL l).toArray⟩] w1 (fun e w' => ∃ A' c', e = .returned (.tuple #[.slice A' l.length c', .bool true]) ∧ SlAt encR 2 w' A' l ∧ Below w1.heap.size w1 w') from (PA w1 hB).mono (by
        rintro e w' ⟨v, he, ho, hb'⟩
        obtain ⟨A', c', rfl⟩ := own_any ho
        exact ⟨A', c', he, SlAt.of_own encR_len ho, hb'⟩))
      have EQ := fun A1 c1 w1 h1 (hB : Below w.heap.size w w1) => Lib.hid (equalR_any A1 A c1 c l l hn hn w1 h1 (hS.below hB))
      simp only [decide_true] at EQ
      clear henv hS hb hpl hn P0
      generalize printL l = f at *
      go_enter Tryd.func3, Tryd.ntmps3
      go_wp2_with fail
      refine FW.out.mono ?_
      rintro e w1 ⟨rfl, rfl⟩
      go_wp2_with fail
      refine PR.out.mono ?_
      rintro e w1 ⟨rfl, hB⟩
      go_wp2_with fail
      refine (PA _ hB).out.mono ?_
      rintro e w2 ⟨A', c', rfl, hS2, h2⟩
      have hB := below_next hB h2
      have HS2 := Lib.hid hS2
      clear FW PR PA h2 hS2
      go_wp2_with fail
      refine (L _ hB).out.mono ?_
      rintro e w3 ⟨rfl, h2⟩
      have hB := below_next hB h2
      have HS3 := Lib.hid (HS2.out.below h2)
      clear L h2 HS2
      go_wp2_with fail
      refine (RP _ hB).out.mono ?_
      rintro e w4 ⟨rfl, h2⟩
      have hB := below_next hB h2
      have EQ := EQ A' c' w4 (HS3.out.below h2) hB
      clear RP h2 HS3
      go_wp2_with fail
      refine EQ.out.mono ?_
      rintro e w5 ⟨rfl, h2⟩
      have hB := below_next hB h2
      clear EQ h2
      go_wp2_with fail
      go_ret
      exact ⟨rfl, hB⟩
  · rw [decide_eq_false h60] at FW
    clear henv hS hb
    go_enter Tryd.func3, Tryd.ntmps3
    go_wp2_with fail
    refine FW.out.mono ?_
    rintro e w1 ⟨rfl, rfl⟩
    go_wp2_with fail
    refine (L _ (Below.refl _ _)).out.mono ?_
    rintro e w1 ⟨rfl, hB⟩
    go_wp2_with fail
    refine (P0 _ hB).out.mono ?_
    rintro e w2 ⟨rfl, h2⟩
    have hB := below_next hB h2
    clear L FW P0 h2
    go_wp2_with fail
    go_ret
    exact ⟨rfl, hB⟩
end Go.Proofs.YtdgcghcigjblaaaDoor
