/- The examples of chapter 2: the law's own 'alive'. -/
import Derived.Test.YtdgcghcigjblaaaDoorParse
import Derived.Test.YtdgcghcigjblaaaDoorPrintL
import Derived.Test.YtdgcghcigjblaaaDoorSeqOf
import Derived.Test.YtdgcghcigjblaaaDoorSlEqU
import Derived.Test.YtdgcghcigjblaaaDoorNumMath
namespace Go.Proofs.YtdgcghcigjblaaaDoor
open Go.RowKit

theorem num_5 : numOf [53] = some 5 := by simp [numOf, Lib.parseUintB, Lib.parseUintM, Lib.decDigits]
theorem num_2 : numOf [50] = some 2 := by simp [numOf, Lib.parseUintB, Lib.parseUintM, Lib.decDigits]
theorem parse_ex : parseP [53, 58, 42, 44, 50] = ([(5, 0), (2, 2)], true) := by
  simp [parseP, splitL, rngP, Lib.indexByte, numP, num_5, num_2]
theorem nums_ex7 : numsL 7 [(5, 0), (2, 2)] = [2, 5, 6, 7] := by decide
theorem vld_ex7 : vldL 7 [(5, 0), (2, 2)] = true := by decide
theorem vld_ex4 : vldL 4 [(5, 0), (2, 2)] = false := by decide
theorem of_ex {J : List R} (hJ : canon J) (hm : ∀ n, memL J n ↔ n ∈ [3, 1, 2, 7] ∧ 0 < n) : J = [(1, 3), (7, 7)] := by
  refine canon_unique hJ ⟨by simp [okR], by simp⟩ fun n => ?_
  rw [hm n]
  simp only [memL, List.mem_cons, List.not_mem_nil, or_false, exists_eq_or_imp, exists_eq_left]
  omega
theorem print_ex : printL [(1, 3), (7, 7)] = [49, 58, 51, 44, 55] := by
  have d1 : Lib.decDigits 1 = [49] := by rw [Lib.decDigits]; rfl
  have d3 : Lib.decDigits 3 = [51] := by rw [Lib.decDigits]; rfl
  have d7 : Lib.decDigits 7 = [55] := by rw [Lib.decDigits]; rfl
  simp [printL, prTail, formR, formN, d1, d3, d7]

theorem parse_alive (w : World) (henv : Env w) :
    Calls Tryd.prog 10 #[.string ⟨#[53, 58, 42, 44, 50]⟩] w fun e w' => ∃ A c, e = .returned (.tuple #[.slice A 2 c, .bool true]) ∧ SlAt encR 2 w' A [(5, 0), (2, 2)] ∧ Below w.heap.size w w' := by
  have h := parse_any ⟨#[53, 58, 42, 44, 50]⟩ (by decide) w henv
  rw [show (ByteArray.mk #[53, 58, 42, 44, 50]).data.toList = [53, 58, 42, 44, 50] from rfl, parse_ex] at h
  refine h.mono ?_
  rintro e w' ⟨v, he, ho, hb⟩
  obtain ⟨A, c, rfl⟩ := own_any ho
  exact ⟨A, c, he, SlAt.of_own encR_len ho, hb⟩
theorem flatU (l : List Nat) : flatL encU l = l.map fun (n : Nat) => Value.int .u32 (n : Int) := by
  induction l with
  | nil => rfl
  | cons n l ih =>
    have : flatL encU (n :: l) = encU n ++ flatL encU l := rfl
    rw [this, ih]
    rfl
theorem numbers_alive (A : Option Addr) (c : Nat) (w : World) (hS : SlAt encR 2 w A [(5, 0), (2, 2)]) :
    Calls Tryd.prog 16 #[.int .u32 7, .slice A 2 c] w fun e w' => ∃ A' c', e = .returned (.slice A' 4 c') ∧ SlAt encU 1 w' A' [2, 5, 6, 7] ∧ Below w.heap.size w w' := by
  have h := numbers_ok 7 (by decide) A c [(5, 0), (2, 2)] (by decide) vld_ex7 (by rw [nums_ex7]; decide) w hS
  rw [nums_ex7] at h
  refine h.mono ?_
  rintro e w' ⟨v, he, ho, hb⟩
  obtain ⟨A', c', rfl⟩ := own_any ho
  exact ⟨A', c', he, SlAt.of_own encU_len (by rw [flatU]; exact ho), hb⟩
theorem of_alive (A : Option Addr) (c : Nat) (w : World) (hS : SlAt encU 1 w A [3, 1, 2, 7]) :
    Calls Tryd.prog 20 #[.slice A 4 c] w fun e w' => ∃ A' c', e = .returned (.slice A' 2 c') ∧ SlAt encR 2 w' A' [(1, 3), (7, 7)] ∧ Below w.heap.size w w' := by
  refine (of_any A c [3, 1, 2, 7] (by decide) (by decide) w hS).mono ?_
  rintro e w' ⟨J, v, he, hJ, hm, _, ho, hb⟩
  obtain rfl := of_ex hJ hm
  obtain ⟨A', c', rfl⟩ := own_any ho
  exact ⟨A', c', he, SlAt.of_own encR_len ho, hb⟩
theorem slAt_lit4 (w : World) (a b c d : Nat) : SlAt encU 1 (w.alloc (.cells #[.int .u32 (a : Int), .int .u32 (b : Int), .int .u32 (c : Int), .int .u32 (d : Int)] 30)) (some ⟨w.heap.size, 0, none⟩) [a, b, c, d] := by
  refine .inr ⟨w.heap.size, 0, rfl, by simp, fun j x hj i v hi => ?_⟩
  have hi0 : i = 0 := by
    have := (List.getElem?_eq_some_iff.1 hi).1
    simp [encU] at this
    exact this
  subst hi0
  obtain rfl : v = .int .u32 (x : Int) := by simpa [encU] using hi.symm
  match j, hj with
  | 0, hj => simp at hj; subst hj; simp
  | 1, hj => simp at hj; subst hj; simp
  | 2, hj => simp at hj; subst hj; simp
  | 3, hj => simp at hj; subst hj; simp

set_option maxRecDepth 100000 in
set_option maxHeartbeats 2000000 in
theorem alive2_any (w : World) (henv : Env w) :
    Calls Tryd.prog 8 #[] w fun e w' => e = .returned (.bool true) ∧ Below w.heap.size w w' := by
  have P := Lib.hid (parse_alive w henv)
  have HE := fun w1 (hB : Below w.heap.size w w1) => Lib.hid (henv.below hB)
  clear henv
  go_enter Tryd.func8, Tryd.ntmps8
  go_wp2_with fail
  refine P.out.mono ?_
  rintro e w1 ⟨A, c, rfl, hS, hB⟩
  have N := Lib.hid (numbers_alive A c w1 hS)
  have HS := Lib.hid hS
  clear P hS
  go_wp2_with fail
  refine N.out.mono ?_
  rintro e w2 ⟨A2, c2, rfl, hS2, h2⟩
  have HS := Lib.hid (HS.out.below h2)
  have hB := below_next hB h2
  have HL := Lib.hid (slAt_lit4 w2 2 5 6 7)
  have HS2 := Lib.hid (hS2.below ((Below.refl _ w2).alloc (Nat.le_refl _) (.cells #[.int .u32 ((2 : Nat) : Int), .int .u32 ((5 : Nat) : Int), .int .u32 ((6 : Nat) : Int), .int .u32 ((7 : Nat) : Int)] 30)))
  clear N h2 hS2
  have hB2 := hB.alloc hB.size (.cells #[.int .u32 2, .int .u32 5, .int .u32 6, .int .u32 7] 30)
  have EQ := Lib.hid (show Calls Tryd.prog 15 #[.slice A2 4 c2, .slice (some ⟨w2.heap.size, 0, none⟩) 4 4] (w2.alloc (.cells #[.int .u32 2, .int .u32 5, .int .u32 6, .int .u32 7] 30)) (fun e w' => e = .returned (.bool true) ∧ Below (w2.alloc (.cells #[.int .u32 2, .int .u32 5, .int .u32 6, .int .u32 7] 30)).heap.size (w2.alloc (.cells #[.int .u32 2, .int .u32 5, .int .u32 6, .int .u32 7] 30)) w') from equalU_any A2 (some ⟨w2.heap.size, 0, none⟩) c2 4 [2, 5, 6, 7] [2, 5, 6, 7] (by decide) (by decide) _ HS2.out HL.out)
  have HS := Lib.hid (HS.out.below ((Below.refl _ w2).alloc (Nat.le_refl _) (.cells #[.int .u32 2, .int .u32 5, .int .u32 6, .int .u32 7] 30)))
  clear HS2 HL hB
  go_wp2_with fail
  refine EQ.out.mono ?_
  rintro e w3 ⟨rfl, h3⟩
  have HS := Lib.hid (HS.out.below h3)
  have hB := below_next hB2 h3
  have N4 := Lib.hid (show Calls Tryd.prog 16 #[.int .u32 4, .slice A 2 c] w3 (fun e w' => e = .returned (.slice none 0 0) ∧ Below w3.heap.size w3 w') from numbers_bad 4 A c [(5, 0), (2, 2)] (by decide) vld_ex4 w3 HS.out)
  clear EQ h3 hB2
  go_wp2_with fail
  refine N4.out.mono ?_
  rintro e w4 ⟨rfl, h4⟩
  have hB := below_next hB h4
  have O := Lib.hid (of_alive (some ⟨w4.heap.size, 0, none⟩) 4 _ (slAt_lit4 w4 3 1 2 7))
  clear N4 h4 HS
  go_wp2_with fail
  refine O.out.mono ?_
  rintro e w5 ⟨A5, c5, rfl, hS5, h5⟩
  have hB5 := below_next (hB.alloc hB.size (.cells #[.int .u32 3, .int .u32 1, .int .u32 2, .int .u32 7] 30)) h5
  have PR := print_any A5 c5 [(1, 3), (7, 7)] (by decide) (by decide) w5 hS5 (HE _ hB5).out
  rw [print_ex] at PR
  have PR := Lib.hid (show Calls Tryd.prog 9 #[.slice A5 2 c5] w5 (fun e w' => e = .returned (.string ⟨#[49, 58, 51, 44, 55]⟩) ∧ Below w5.heap.size w5 w') from PR)
  clear O hS5 h5 HE
  go_wp2_with fail
  refine PR.out.mono ?_
  rintro e w6 ⟨rfl, h6⟩
  have hB := below_next hB5 h6
  clear PR h6 hB5
  go_wp2_with fail
  go_ret
  exact ⟨rfl, hB⟩
end Go.Proofs.YtdgcghcigjblaaaDoor
