/- The reference of layer 10: guess. -/
import Derived.Test.YtpoejnajnaolpaaGreatDoorRf10F
import Derived.Deep.Cut
import Derived.Test.YtpoejnajnaolpaaGreatDoorRf10L
namespace Go.Proofs.YtpoejnajnaolpaaGreatDoor
open Go.RowKit

/-- The guess, its words read. -/
def guessF (F G T U s2 : List UInt8) : RI :=
  if F = [43] then ⟨10, 0, [], 0, U, 0, 0, 0, 0, []⟩
  else if F ≠ [42] then
    (if G = [79, 75] then ⟨9, 0, F, 0, T, 0, 0, 0, 0, []⟩
     else if G = [78, 79] then ⟨9, 0, F, 1, T, 0, 0, 0, 0, []⟩
     else if G = [66, 65, 68] then ⟨9, 0, F, 2, T, 0, 0, 0, 0, []⟩
     else rsZero)
  else if G = [70, 76, 65, 71, 83] then ⟨5, 0, [], 0, [], 0, 0, 0, 0, []⟩
  else if G = [79, 75] then ⟨6, 0, [], 0, T, 0, 0, 0, 0, []⟩
  else if G = [66, 89, 69] then ⟨7, 0, [], 0, T, 0, 0, 0, 0, []⟩
  else if G = [66, 65, 68] then ⟨8, 0, [], 0, T, 0, 0, 0, 0, []⟩
  else match numOf G with
    | none => rsZero
    | some x =>
      if T = [69, 88, 73, 83, 84, 83] then ⟨1, x, [], 0, [], 0, 0, 0, 0, []⟩
      else if T = [82, 69, 67, 69, 78, 84] then ⟨2, x, [], 0, [], 0, 0, 0, 0, []⟩
      else if T = [69, 88, 80, 85, 78, 71, 69] then ⟨3, x, [], 0, [], 0, 0, 0, 0, []⟩
      else if List.isPrefixOf [70, 69, 84, 67, 72, 32, 40] s2 then fetM litO 5 (s2.drop 7) (rpR x 0 0 0 0 [])
      else rsZero
/-- The guess behind a number. -/
def guessN (o : Option Nat) (T s2 : List UInt8) : RI :=
  match o with
  | none => rsZero
  | some x =>
    if T = [69, 88, 73, 83, 84, 83] then ⟨1, x, [], 0, [], 0, 0, 0, 0, []⟩
    else if T = [82, 69, 67, 69, 78, 84] then ⟨2, x, [], 0, [], 0, 0, 0, 0, []⟩
    else if T = [69, 88, 80, 85, 78, 71, 69] then ⟨3, x, [], 0, [], 0, 0, 0, 0, []⟩
    else if List.isPrefixOf [70, 69, 84, 67, 72, 32, 40] s2 then fetM litO 5 (s2.drop 7) (rpR x 0 0 0 0 [])
    else rsZero
theorem guess_n {G T U s2 : List UInt8} (h0 : ¬ G = [70, 76, 65, 71, 83]) (h1 : ¬ G = [79, 75]) (h2 : ¬ G = [66, 89, 69]) (h3 : ¬ G = [66, 65, 68]) : guessF [42] G T U s2 = guessN (numOf G) T s2 := by
  unfold guessF
  rw [if_neg (by decide), if_neg (by simp), if_neg h0, if_neg h1, if_neg h2, if_neg h3]
  rfl
theorem guess_eq (l : List UInt8) : guessM litO l = guessF (wordT l).1 (wordT (wordT l).2).1 (lineT (wordT (wordT l).2).2) (lineT (wordT l).2) (wordT (wordT l).2).2 := rfl
theorem beq_no {a b : List UInt8} (h : ¬ a = b) : (a == b) = false := by rw [beq_eq_false_iff_ne]; exact h

set_option maxRecDepth 100000 in
set_option maxHeartbeats 16000000 in
theorem guess10_any (c n : Nat) (A : Option Addr) (l : List UInt8) (hn : l.length = n) (hl : n ≤ 1000000) (w : World) (hA : ByAt w.heap.size w A c l) :
    Calls Tryz.prog 28 #[.slice A n c] w fun e w' => FtPo w (guessM litO l) e w' := by
  have HA := Lib.hid (fun W (h : Below w.heap.size w W) => hA.below h)
  have HN := Lib.hid hn
  have WT := Lib.hid (fun W (h : Below w.heap.size w W) (k : Nat) (hk : k ≤ n) => word10_any w.heap.size c n k A l hn hk hl W (hA.below h))
  have LT := Lib.hid (fun W (h : Below w.heap.size w W) (k : Nat) (hk : k ≤ n) => line10_any w.heap.size c n k A l hn hk hl W (hA.below h))
  have BX := Lib.hid (show (w.alloc (.cells #[.int .i64 0, .int .u32 0, .string ⟨#[]⟩, .int .i64 0, .string ⟨#[]⟩, .int .i64 0, .int .u8 0, .int .u32 0, .int .u32 0, .slice none 0 0] 27)).heap[w.heap.size]? = some (.cells #[.int .i64 0, .int .u32 0, .string ⟨#[]⟩, .int .i64 0, .string ⟨#[]⟩, .int .i64 0, .int .u8 0, .int .u32 0, .int .u32 0, .slice none 0 0] 27 (0, 0)) from heap_alloc_new w _)
  have BL := Lib.hid (below_al w (.cells #[.int .i64 0, .int .u32 0, .string ⟨#[]⟩, .int .i64 0, .string ⟨#[]⟩, .int .i64 0, .int .u8 0, .int .u32 0, .int .u32 0, .slice none 0 0] 27))
  have GE := Lib.hid (guess_eq l)
  have LE := Lib.hid (show ∀ k, (wordT (l.drop k)).1.length ≤ n ∧ (wordT (l.drop k)).2.length ≤ n from fun k => ⟨Nat.le_trans (wordT_len _).1 (by rw [List.length_drop]; omega), Nat.le_trans (wordT_len _).2 (by rw [List.length_drop]; omega)⟩)
  have LL := Lib.hid (show ∀ k, (lineT (l.drop k)).length ≤ n from fun k => Nat.le_trans (lineT_len _) (by rw [List.length_drop]; omega))
  generalize guessM litO l = M at *
  clear hA hn
  generalize hw1 : w.alloc (.cells #[.int .i64 0, .int .u32 0, .string ⟨#[]⟩, .int .i64 0, .string ⟨#[]⟩, .int .i64 0, .int .u8 0, .int .u32 0, .int .u32 0, .slice none 0 0] 27) = w1 at *
  have W0 := Lib.hid (WT.out w1 BL.out 0 (Nat.zero_le _))
  rw [List.drop_zero] at W0
  have LE0 := Lib.hid (LE.out 0)
  rw [List.drop_zero] at LE0
  go_enter Tryz.func28, Tryz.ntmps28
  go_upto_region 1 with (fail)
  clear hw1
  go_wp2_with fail
  refine W0.out.mono ?_
  rintro e w2 ⟨⟨k1, hk1, e1, rfl⟩, rfl⟩
  have E1 := Lib.hid e1
  have W1 := Lib.hid (WT.out w1 BL.out k1 hk1)
  have L1 := Lib.hid (LT.out w1 BL.out k1 hk1)
  have HK1 := Lib.hid hk1
  have LE1 := Lib.hid (LE.out k1)
  have LL1 := Lib.hid (LL.out k1)
  rw [← e1] at GE
  clear e1 W0
  go_wp2_with fail
  refine W1.out.mono ?_
  rintro e w2 ⟨⟨k2, hk2, e2, rfl⟩, rfl⟩
  have E2 := Lib.hid e2
  have L2 := Lib.hid (LT.out w1 BL.out k2 hk2)
  have LL2 := Lib.hid (LL.out k2)
  rw [← e2] at GE
  clear e2 W1
  go_wp2_with fail
  refine L2.out.mono ?_
  rintro e w2 ⟨⟨v2, rfl⟩, rfl⟩
  go_wp2_with fail
  refine L1.out.mono ?_
  rintro e w2 ⟨⟨v1, rfl⟩, rfl⟩
  clear L1 L2 WT LT E1 E2 LE LL
  generalize (wordT l).1 = F at *
  generalize (wordT (l.drop k1)).1 = G at *
  generalize lineT (l.drop k2) = T at *
  generalize lineT (l.drop k1) = U at *
  by_cases f1 : F = [43]
  · subst f1
    have HR := Lib.hid (show M = ⟨10, 0, [], 0, U, 0, 0, 0, 0, []⟩ by rw [GE.out]; unfold guessF; rw [if_pos rfl])
    obtain ⟨y0, y1, y2, y3, y4, y5, y6, y7, y8, y9⟩ := cells10 BX.out
    have z0 := Joins.unfrozen_of_block BX.out 0
    have z1 := Joins.unfrozen_of_block BX.out 1
    have z2 := Joins.unfrozen_of_block BX.out 2
    have z3 := Joins.unfrozen_of_block BX.out 3
    have z4 := Joins.unfrozen_of_block BX.out 4
    have z5 := Joins.unfrozen_of_block BX.out 5
    have z6 := Joins.unfrozen_of_block BX.out 6
    have z7 := Joins.unfrozen_of_block BX.out 7
    have z8 := Joins.unfrozen_of_block BX.out 8
    have z9 := Joins.unfrozen_of_block BX.out 9
    go_wp2_with fail
    change bodyPost _ _ _ _ _ (stR w1 w.heap.size (.int .i64 10) (.int .u32 0) (.string ⟨#[]⟩) (.int .i64 0) (.string ⟨U.toArray⟩) (.int .i64 0) (.int .u8 0) (.int .u32 0) (.int .u32 0) (.slice none 0 0))
    have hq := stR_block BX.out (.int .i64 10) (.int .u32 0) (.string ⟨#[]⟩) (.int .i64 0) (.string ⟨U.toArray⟩) (.int .i64 0) (.int .u8 0) (.int .u32 0) (.int .u32 0) (.slice none 0 0)
    have HG := Lib.hid (stR_grown w1 w.heap.size (.int .i64 10) (.int .u32 0) (.string ⟨#[]⟩) (.int .i64 0) (.string ⟨U.toArray⟩) (.int .i64 0) (.int .u8 0) (.int .u32 0) (.int .u32 0) (.slice none 0 0))
    have HB9 := Lib.hid (below_st BL.out HG.out (Nat.le_refl _))
    clear y0 y1 y2 y3 y4 y5 y6 y7 y8 y9 z0 z1 z2 z3 z4 z5 z6 z7 z8 z9
    generalize stR w1 w.heap.size (.int .i64 10) (.int .u32 0) (.string ⟨#[]⟩) (.int .i64 0) (.string ⟨U.toArray⟩) (.int .i64 0) (.int .u8 0) (.int .u32 0) (.int .u32 0) (.slice none 0 0) = w9 at *
    obtain ⟨p0, p1, p2, p3, p4, p5, p6, p7, p8, p9⟩ := cells10 hq
    refine bodyPost_ret (v := rsV ⟨10, 0, [], 0, U, 0, 0, 0, 0, []⟩ none 0) (by simp [results, Tryz.results28, go_sem, p0, p1, p2, p3, p4, p5, p6, p7, p8, p9]; rfl) rfl (FtPo.of (q := ⟨10, 0, [], 0, U, 0, 0, 0, 0, []⟩) (A := none) (k := 0) HR.out.symm (World.ownsRow_nil _ _ _ _) HB9.out)
  have d1 := beq_no f1
  have F1 := Lib.hid f1
  clear f1
  by_cases f2 : F = [42]
  rotate_left
  · have d2 := beq_no f2
    have F2 := Lib.hid f2
    have GE2 := Lib.hid (show M = if G = [79, 75] then ⟨9, 0, F, 0, T, 0, 0, 0, 0, []⟩ else if G = [78, 79] then ⟨9, 0, F, 1, T, 0, 0, 0, 0, []⟩ else if G = [66, 65, 68] then ⟨9, 0, F, 2, T, 0, 0, 0, 0, []⟩ else rsZero by rw [GE.out]; unfold guessF; rw [if_neg F1.out, if_pos f2])
    clear f2
    go_wp2_with fail
    go_loopg [11] 4 (fun gg v wr => ∃ s : Nat, v = .int .i64 (s : Int) ∧ s ≤ 3 ∧ 4 ≤ gg + s ∧ Hid (1 ≤ s → ¬ G = [79, 75]) ∧ Hid (2 ≤ s → ¬ G = [78, 79]) ∧ Hid (3 ≤ s → ¬ G = [66, 65, 68]) ∧ Hid (wr.heap[w.heap.size]? = some (.cells #[.int .i64 0, .int .u32 0, .string ⟨#[]⟩, .int .i64 0, .string ⟨#[]⟩, .int .i64 0, .int .u8 0, .int .u32 0, .int .u32 0, .slice none 0 0] 27 (0, 0))) ∧ Hid (Below w.heap.size w wr))
    case atStart => exact ⟨0, rfl, by omega, by omega, Lib.hid (fun h => by omega), Lib.hid (fun h => by omega), Lib.hid (fun h => by omega), BX, BL⟩
    case round =>
    clear BX BL GE HA
    obtain ⟨s, rfl, hs, hg, N1, N2, N3, BX, BL⟩ := hrel
    obtain ⟨g, rfl⟩ : ∃ g, gk = g + 1 := ⟨gk - 1, by omega⟩
    have hss : s = 0 ∨ s = 1 ∨ s = 2 ∨ s = 3 := by omega
    rcases hss with rfl | rfl | rfl | rfl
    · by_cases hq : G = [79, 75]
      · subst hq
        have HR := Lib.hid (show M = ⟨9, 0, F, 0, T, 0, 0, 0, 0, []⟩ by rw [GE2.out, if_pos rfl])
        have BX5 := Lib.hid (((below_al wr (.cells #[.string ⟨#[79, 75]⟩, .string ⟨#[78, 79]⟩, .string ⟨#[66, 65, 68]⟩] 9)).block w.heap.size (Array.getElem?_eq_some_iff.1 BX.out).1).trans BX.out)
        have BL5 := Lib.hid (below_next BL.out (below_al wr (.cells #[.string ⟨#[79, 75]⟩, .string ⟨#[78, 79]⟩, .string ⟨#[66, 65, 68]⟩] 9)))
        clear GE2 N1 N2 N3
        obtain ⟨w5, hw5⟩ : ∃ w5, wr.alloc (.cells #[.string ⟨#[79, 75]⟩, .string ⟨#[78, 79]⟩, .string ⟨#[66, 65, 68]⟩] 9) = w5 := ⟨_, rfl⟩
        have cc := cell_of_row _ _ 0 _ _ _ (heap_alloc_new wr (.cells #[.string ⟨#[79, 75]⟩, .string ⟨#[78, 79]⟩, .string ⟨#[66, 65, 68]⟩] 9))
        rw [hw5] at BX5 BL5 cc
        go_upto_region 12 with (fail)
        clear hw5
        obtain ⟨y0, y1, y2, y3, y4, y5, y6, y7, y8, y9⟩ := cells10 BX5.out
        have z0 := Joins.unfrozen_of_block BX5.out 0
        have z1 := Joins.unfrozen_of_block BX5.out 1
        have z2 := Joins.unfrozen_of_block BX5.out 2
        have z3 := Joins.unfrozen_of_block BX5.out 3
        have z4 := Joins.unfrozen_of_block BX5.out 4
        have z5 := Joins.unfrozen_of_block BX5.out 5
        have z6 := Joins.unfrozen_of_block BX5.out 6
        have z7 := Joins.unfrozen_of_block BX5.out 7
        have z8 := Joins.unfrozen_of_block BX5.out 8
        have z9 := Joins.unfrozen_of_block BX5.out 9
        go_wp2_with fail
        change bodyPost _ _ _ _ _ (stR w5 w.heap.size (.int .i64 9) (.int .u32 0) (.string ⟨F.toArray⟩) (.int .i64 0) (.string ⟨T.toArray⟩) (.int .i64 0) (.int .u8 0) (.int .u32 0) (.int .u32 0) (.slice none 0 0))
        have hq := stR_block BX5.out (.int .i64 9) (.int .u32 0) (.string ⟨F.toArray⟩) (.int .i64 0) (.string ⟨T.toArray⟩) (.int .i64 0) (.int .u8 0) (.int .u32 0) (.int .u32 0) (.slice none 0 0)
        have HG := Lib.hid (stR_grown w5 w.heap.size (.int .i64 9) (.int .u32 0) (.string ⟨F.toArray⟩) (.int .i64 0) (.string ⟨T.toArray⟩) (.int .i64 0) (.int .u8 0) (.int .u32 0) (.int .u32 0) (.slice none 0 0))
        have HB9 := Lib.hid (below_st BL5.out HG.out (Nat.le_refl _))
        clear y0 y1 y2 y3 y4 y5 y6 y7 y8 y9 z0 z1 z2 z3 z4 z5 z6 z7 z8 z9
        generalize stR w5 w.heap.size (.int .i64 9) (.int .u32 0) (.string ⟨F.toArray⟩) (.int .i64 0) (.string ⟨T.toArray⟩) (.int .i64 0) (.int .u8 0) (.int .u32 0) (.int .u32 0) (.slice none 0 0) = w9 at *
        obtain ⟨p0, p1, p2, p3, p4, p5, p6, p7, p8, p9⟩ := cells10 hq
        refine bodyPost_ret (v := rsV ⟨9, 0, F, 0, T, 0, 0, 0, 0, []⟩ none 0) (by simp [results, Tryz.results28, go_sem, p0, p1, p2, p3, p4, p5, p6, p7, p8, p9]; rfl) rfl (FtPo.of (q := ⟨9, 0, F, 0, T, 0, 0, 0, 0, []⟩) (A := none) (k := 0) HR.out.symm (World.ownsRow_nil _ _ _ _) HB9.out)
      · have d3 : (G == [79, 75]) = false := beq_no hq
        have HQ := Lib.hid hq
        have BX5 := Lib.hid (((below_al wr (.cells #[.string ⟨#[79, 75]⟩, .string ⟨#[78, 79]⟩, .string ⟨#[66, 65, 68]⟩] 9)).block w.heap.size (Array.getElem?_eq_some_iff.1 BX.out).1).trans BX.out)
        have BL5 := Lib.hid (below_next BL.out (below_al wr (.cells #[.string ⟨#[79, 75]⟩, .string ⟨#[78, 79]⟩, .string ⟨#[66, 65, 68]⟩] 9)))
        clear hq GE2
        go_wp2_with fail
        go_roundg g
        case measure => omega
        case rel => exact ⟨1, rfl, by omega, by omega, Lib.hid (fun _ => HQ.out), Lib.hid (fun h => by omega), Lib.hid (fun h => by omega), BX5, BL5⟩
    · by_cases hq : G = [78, 79]
      · subst hq
        have HR := Lib.hid (show M = ⟨9, 0, F, 1, T, 0, 0, 0, 0, []⟩ by rw [GE2.out, if_neg (N1.out (by omega)), if_pos rfl])
        have BX5 := Lib.hid (((below_al wr (.cells #[.string ⟨#[79, 75]⟩, .string ⟨#[78, 79]⟩, .string ⟨#[66, 65, 68]⟩] 9)).block w.heap.size (Array.getElem?_eq_some_iff.1 BX.out).1).trans BX.out)
        have BL5 := Lib.hid (below_next BL.out (below_al wr (.cells #[.string ⟨#[79, 75]⟩, .string ⟨#[78, 79]⟩, .string ⟨#[66, 65, 68]⟩] 9)))
        clear GE2 N1 N2 N3
        obtain ⟨w5, hw5⟩ : ∃ w5, wr.alloc (.cells #[.string ⟨#[79, 75]⟩, .string ⟨#[78, 79]⟩, .string ⟨#[66, 65, 68]⟩] 9) = w5 := ⟨_, rfl⟩
        have cc := cell_of_row _ _ 1 _ _ _ (heap_alloc_new wr (.cells #[.string ⟨#[79, 75]⟩, .string ⟨#[78, 79]⟩, .string ⟨#[66, 65, 68]⟩] 9))
        rw [hw5] at BX5 BL5 cc
        go_upto_region 12 with (fail)
        clear hw5
        obtain ⟨y0, y1, y2, y3, y4, y5, y6, y7, y8, y9⟩ := cells10 BX5.out
        have z0 := Joins.unfrozen_of_block BX5.out 0
        have z1 := Joins.unfrozen_of_block BX5.out 1
        have z2 := Joins.unfrozen_of_block BX5.out 2
        have z3 := Joins.unfrozen_of_block BX5.out 3
        have z4 := Joins.unfrozen_of_block BX5.out 4
        have z5 := Joins.unfrozen_of_block BX5.out 5
        have z6 := Joins.unfrozen_of_block BX5.out 6
        have z7 := Joins.unfrozen_of_block BX5.out 7
        have z8 := Joins.unfrozen_of_block BX5.out 8
        have z9 := Joins.unfrozen_of_block BX5.out 9
        go_wp2_with fail
        change bodyPost _ _ _ _ _ (stR w5 w.heap.size (.int .i64 9) (.int .u32 0) (.string ⟨F.toArray⟩) (.int .i64 1) (.string ⟨T.toArray⟩) (.int .i64 0) (.int .u8 0) (.int .u32 0) (.int .u32 0) (.slice none 0 0))
        have hq := stR_block BX5.out (.int .i64 9) (.int .u32 0) (.string ⟨F.toArray⟩) (.int .i64 1) (.string ⟨T.toArray⟩) (.int .i64 0) (.int .u8 0) (.int .u32 0) (.int .u32 0) (.slice none 0 0)
        have HG := Lib.hid (stR_grown w5 w.heap.size (.int .i64 9) (.int .u32 0) (.string ⟨F.toArray⟩) (.int .i64 1) (.string ⟨T.toArray⟩) (.int .i64 0) (.int .u8 0) (.int .u32 0) (.int .u32 0) (.slice none 0 0))
        have HB9 := Lib.hid (below_st BL5.out HG.out (Nat.le_refl _))
        clear y0 y1 y2 y3 y4 y5 y6 y7 y8 y9 z0 z1 z2 z3 z4 z5 z6 z7 z8 z9
        generalize stR w5 w.heap.size (.int .i64 9) (.int .u32 0) (.string ⟨F.toArray⟩) (.int .i64 1) (.string ⟨T.toArray⟩) (.int .i64 0) (.int .u8 0) (.int .u32 0) (.int .u32 0) (.slice none 0 0) = w9 at *
        obtain ⟨p0, p1, p2, p3, p4, p5, p6, p7, p8, p9⟩ := cells10 hq
        refine bodyPost_ret (v := rsV ⟨9, 0, F, 1, T, 0, 0, 0, 0, []⟩ none 0) (by simp [results, Tryz.results28, go_sem, p0, p1, p2, p3, p4, p5, p6, p7, p8, p9]; rfl) rfl (FtPo.of (q := ⟨9, 0, F, 1, T, 0, 0, 0, 0, []⟩) (A := none) (k := 0) HR.out.symm (World.ownsRow_nil _ _ _ _) HB9.out)
      · have d3 : (G == [78, 79]) = false := beq_no hq
        have HQ := Lib.hid hq
        have BX5 := Lib.hid (((below_al wr (.cells #[.string ⟨#[79, 75]⟩, .string ⟨#[78, 79]⟩, .string ⟨#[66, 65, 68]⟩] 9)).block w.heap.size (Array.getElem?_eq_some_iff.1 BX.out).1).trans BX.out)
        have BL5 := Lib.hid (below_next BL.out (below_al wr (.cells #[.string ⟨#[79, 75]⟩, .string ⟨#[78, 79]⟩, .string ⟨#[66, 65, 68]⟩] 9)))
        clear hq GE2
        go_wp2_with fail
        go_roundg g
        case measure => omega
        case rel => exact ⟨2, rfl, by omega, by omega, Lib.hid (fun _ => N1.out (by omega)), Lib.hid (fun _ => HQ.out), Lib.hid (fun h => by omega), BX5, BL5⟩
    · by_cases hq : G = [66, 65, 68]
      · subst hq
        have HR := Lib.hid (show M = ⟨9, 0, F, 2, T, 0, 0, 0, 0, []⟩ by rw [GE2.out, if_neg (N1.out (by omega)), if_neg (N2.out (by omega)), if_pos rfl])
        have BX5 := Lib.hid (((below_al wr (.cells #[.string ⟨#[79, 75]⟩, .string ⟨#[78, 79]⟩, .string ⟨#[66, 65, 68]⟩] 9)).block w.heap.size (Array.getElem?_eq_some_iff.1 BX.out).1).trans BX.out)
        have BL5 := Lib.hid (below_next BL.out (below_al wr (.cells #[.string ⟨#[79, 75]⟩, .string ⟨#[78, 79]⟩, .string ⟨#[66, 65, 68]⟩] 9)))
        clear GE2 N1 N2 N3
        obtain ⟨w5, hw5⟩ : ∃ w5, wr.alloc (.cells #[.string ⟨#[79, 75]⟩, .string ⟨#[78, 79]⟩, .string ⟨#[66, 65, 68]⟩] 9) = w5 := ⟨_, rfl⟩
        have cc := cell_of_row _ _ 2 _ _ _ (heap_alloc_new wr (.cells #[.string ⟨#[79, 75]⟩, .string ⟨#[78, 79]⟩, .string ⟨#[66, 65, 68]⟩] 9))
        rw [hw5] at BX5 BL5 cc
        go_upto_region 12 with (fail)
        clear hw5
        obtain ⟨y0, y1, y2, y3, y4, y5, y6, y7, y8, y9⟩ := cells10 BX5.out
        have z0 := Joins.unfrozen_of_block BX5.out 0
        have z1 := Joins.unfrozen_of_block BX5.out 1
        have z2 := Joins.unfrozen_of_block BX5.out 2
        have z3 := Joins.unfrozen_of_block BX5.out 3
        have z4 := Joins.unfrozen_of_block BX5.out 4
        have z5 := Joins.unfrozen_of_block BX5.out 5
        have z6 := Joins.unfrozen_of_block BX5.out 6
        have z7 := Joins.unfrozen_of_block BX5.out 7
        have z8 := Joins.unfrozen_of_block BX5.out 8
        have z9 := Joins.unfrozen_of_block BX5.out 9
        go_wp2_with fail
        change bodyPost _ _ _ _ _ (stR w5 w.heap.size (.int .i64 9) (.int .u32 0) (.string ⟨F.toArray⟩) (.int .i64 2) (.string ⟨T.toArray⟩) (.int .i64 0) (.int .u8 0) (.int .u32 0) (.int .u32 0) (.slice none 0 0))
        have hq := stR_block BX5.out (.int .i64 9) (.int .u32 0) (.string ⟨F.toArray⟩) (.int .i64 2) (.string ⟨T.toArray⟩) (.int .i64 0) (.int .u8 0) (.int .u32 0) (.int .u32 0) (.slice none 0 0)
        have HG := Lib.hid (stR_grown w5 w.heap.size (.int .i64 9) (.int .u32 0) (.string ⟨F.toArray⟩) (.int .i64 2) (.string ⟨T.toArray⟩) (.int .i64 0) (.int .u8 0) (.int .u32 0) (.int .u32 0) (.slice none 0 0))
        have HB9 := Lib.hid (below_st BL5.out HG.out (Nat.le_refl _))
        clear y0 y1 y2 y3 y4 y5 y6 y7 y8 y9 z0 z1 z2 z3 z4 z5 z6 z7 z8 z9
        generalize stR w5 w.heap.size (.int .i64 9) (.int .u32 0) (.string ⟨F.toArray⟩) (.int .i64 2) (.string ⟨T.toArray⟩) (.int .i64 0) (.int .u8 0) (.int .u32 0) (.int .u32 0) (.slice none 0 0) = w9 at *
        obtain ⟨p0, p1, p2, p3, p4, p5, p6, p7, p8, p9⟩ := cells10 hq
        refine bodyPost_ret (v := rsV ⟨9, 0, F, 2, T, 0, 0, 0, 0, []⟩ none 0) (by simp [results, Tryz.results28, go_sem, p0, p1, p2, p3, p4, p5, p6, p7, p8, p9]; rfl) rfl (FtPo.of (q := ⟨9, 0, F, 2, T, 0, 0, 0, 0, []⟩) (A := none) (k := 0) HR.out.symm (World.ownsRow_nil _ _ _ _) HB9.out)
      · have d3 : (G == [66, 65, 68]) = false := beq_no hq
        have HQ := Lib.hid hq
        have BX5 := Lib.hid (((below_al wr (.cells #[.string ⟨#[79, 75]⟩, .string ⟨#[78, 79]⟩, .string ⟨#[66, 65, 68]⟩] 9)).block w.heap.size (Array.getElem?_eq_some_iff.1 BX.out).1).trans BX.out)
        have BL5 := Lib.hid (below_next BL.out (below_al wr (.cells #[.string ⟨#[79, 75]⟩, .string ⟨#[78, 79]⟩, .string ⟨#[66, 65, 68]⟩] 9)))
        clear hq GE2
        go_wp2_with fail
        go_roundg g
        case measure => omega
        case rel => exact ⟨3, rfl, by omega, by omega, Lib.hid (fun _ => N1.out (by omega)), Lib.hid (fun _ => N2.out (by omega)), Lib.hid (fun _ => HQ.out), BX5, BL5⟩
    · have HR := Lib.hid (show M = rsZero by rw [GE2.out, if_neg (N1.out (by omega)), if_neg (N2.out (by omega)), if_neg (N3.out (by omega))])
      clear GE2 N1 N2 N3
      obtain ⟨y0, y1, y2, y3, y4, y5, y6, y7, y8, y9⟩ := cells10 BX.out
      have z0 := Joins.unfrozen_of_block BX.out 0
      have z1 := Joins.unfrozen_of_block BX.out 1
      have z2 := Joins.unfrozen_of_block BX.out 2
      have z3 := Joins.unfrozen_of_block BX.out 3
      have z4 := Joins.unfrozen_of_block BX.out 4
      have z5 := Joins.unfrozen_of_block BX.out 5
      have z6 := Joins.unfrozen_of_block BX.out 6
      have z7 := Joins.unfrozen_of_block BX.out 7
      have z8 := Joins.unfrozen_of_block BX.out 8
      have z9 := Joins.unfrozen_of_block BX.out 9
      go_wp2_with fail
      change bodyPost _ _ _ _ _ (stR wr w.heap.size (.int .i64 0) (.int .u32 0) (.string ⟨#[]⟩) (.int .i64 0) (.string ⟨#[]⟩) (.int .i64 0) (.int .u8 0) (.int .u32 0) (.int .u32 0) (.slice none 0 0))
      have hq := stR_block BX.out (.int .i64 0) (.int .u32 0) (.string ⟨#[]⟩) (.int .i64 0) (.string ⟨#[]⟩) (.int .i64 0) (.int .u8 0) (.int .u32 0) (.int .u32 0) (.slice none 0 0)
      have HG := Lib.hid (stR_grown wr w.heap.size (.int .i64 0) (.int .u32 0) (.string ⟨#[]⟩) (.int .i64 0) (.string ⟨#[]⟩) (.int .i64 0) (.int .u8 0) (.int .u32 0) (.int .u32 0) (.slice none 0 0))
      have HB9 := Lib.hid (below_st BL.out HG.out (Nat.le_refl _))
      clear y0 y1 y2 y3 y4 y5 y6 y7 y8 y9 z0 z1 z2 z3 z4 z5 z6 z7 z8 z9
      generalize stR wr w.heap.size (.int .i64 0) (.int .u32 0) (.string ⟨#[]⟩) (.int .i64 0) (.string ⟨#[]⟩) (.int .i64 0) (.int .u8 0) (.int .u32 0) (.int .u32 0) (.slice none 0 0) = w9 at *
      obtain ⟨p0, p1, p2, p3, p4, p5, p6, p7, p8, p9⟩ := cells10 hq
      refine bodyPost_ret (v := rsV rsZero none 0) (by simp [results, Tryz.results28, go_sem, p0, p1, p2, p3, p4, p5, p6, p7, p8, p9]; rfl) rfl (FtPo.of (q := rsZero) (A := none) (k := 0) HR.out.symm (World.ownsRow_nil _ _ _ _) HB9.out)
  · subst f2
    have GE := Lib.hid (show M = guessF [42] G T U (l.drop k2) from GE.out)
    by_cases g0 : G = [70, 76, 65, 71, 83]
    · subst g0
      have HR := Lib.hid (show M = ⟨5, 0, [], 0, [], 0, 0, 0, 0, []⟩ by rw [GE.out]; unfold guessF; rw [if_neg F1.out, if_neg (by simp), if_pos rfl])
      clear GE HA
      obtain ⟨y0, y1, y2, y3, y4, y5, y6, y7, y8, y9⟩ := cells10 BX.out
      have z0 := Joins.unfrozen_of_block BX.out 0
      have z1 := Joins.unfrozen_of_block BX.out 1
      have z2 := Joins.unfrozen_of_block BX.out 2
      have z3 := Joins.unfrozen_of_block BX.out 3
      have z4 := Joins.unfrozen_of_block BX.out 4
      have z5 := Joins.unfrozen_of_block BX.out 5
      have z6 := Joins.unfrozen_of_block BX.out 6
      have z7 := Joins.unfrozen_of_block BX.out 7
      have z8 := Joins.unfrozen_of_block BX.out 8
      have z9 := Joins.unfrozen_of_block BX.out 9
      go_wp2_with fail
      change bodyPost _ _ _ _ _ (stR w1 w.heap.size (.int .i64 5) (.int .u32 0) (.string ⟨#[]⟩) (.int .i64 0) (.string ⟨#[]⟩) (.int .i64 0) (.int .u8 0) (.int .u32 0) (.int .u32 0) (.slice none 0 0))
      have hq := stR_block BX.out (.int .i64 5) (.int .u32 0) (.string ⟨#[]⟩) (.int .i64 0) (.string ⟨#[]⟩) (.int .i64 0) (.int .u8 0) (.int .u32 0) (.int .u32 0) (.slice none 0 0)
      have HG := Lib.hid (stR_grown w1 w.heap.size (.int .i64 5) (.int .u32 0) (.string ⟨#[]⟩) (.int .i64 0) (.string ⟨#[]⟩) (.int .i64 0) (.int .u8 0) (.int .u32 0) (.int .u32 0) (.slice none 0 0))
      have HB9 := Lib.hid (below_st BL.out HG.out (Nat.le_refl _))
      clear y0 y1 y2 y3 y4 y5 y6 y7 y8 y9 z0 z1 z2 z3 z4 z5 z6 z7 z8 z9
      generalize stR w1 w.heap.size (.int .i64 5) (.int .u32 0) (.string ⟨#[]⟩) (.int .i64 0) (.string ⟨#[]⟩) (.int .i64 0) (.int .u8 0) (.int .u32 0) (.int .u32 0) (.slice none 0 0) = w9 at *
      obtain ⟨p0, p1, p2, p3, p4, p5, p6, p7, p8, p9⟩ := cells10 hq
      refine bodyPost_ret (v := rsV ⟨5, 0, [], 0, [], 0, 0, 0, 0, []⟩ none 0) (by simp [results, Tryz.results28, go_sem, p0, p1, p2, p3, p4, p5, p6, p7, p8, p9]; rfl) rfl (FtPo.of (q := ⟨5, 0, [], 0, [], 0, 0, 0, 0, []⟩) (A := none) (k := 0) HR.out.symm (World.ownsRow_nil _ _ _ _) HB9.out)
    have d3 := beq_no g0
    have G0 := Lib.hid g0
    clear g0
    by_cases g1 : G = [79, 75]
    · subst g1
      have HR := Lib.hid (show M = ⟨6, 0, [], 0, T, 0, 0, 0, 0, []⟩ by rw [GE.out]; unfold guessF; rw [if_neg F1.out, if_neg (by simp), if_neg G0.out, if_pos rfl])
      clear GE HA
      obtain ⟨y0, y1, y2, y3, y4, y5, y6, y7, y8, y9⟩ := cells10 BX.out
      have z0 := Joins.unfrozen_of_block BX.out 0
      have z1 := Joins.unfrozen_of_block BX.out 1
      have z2 := Joins.unfrozen_of_block BX.out 2
      have z3 := Joins.unfrozen_of_block BX.out 3
      have z4 := Joins.unfrozen_of_block BX.out 4
      have z5 := Joins.unfrozen_of_block BX.out 5
      have z6 := Joins.unfrozen_of_block BX.out 6
      have z7 := Joins.unfrozen_of_block BX.out 7
      have z8 := Joins.unfrozen_of_block BX.out 8
      have z9 := Joins.unfrozen_of_block BX.out 9
      go_wp2_with fail
      change bodyPost _ _ _ _ _ (stR w1 w.heap.size (.int .i64 6) (.int .u32 0) (.string ⟨#[]⟩) (.int .i64 0) (.string ⟨T.toArray⟩) (.int .i64 0) (.int .u8 0) (.int .u32 0) (.int .u32 0) (.slice none 0 0))
      have hq := stR_block BX.out (.int .i64 6) (.int .u32 0) (.string ⟨#[]⟩) (.int .i64 0) (.string ⟨T.toArray⟩) (.int .i64 0) (.int .u8 0) (.int .u32 0) (.int .u32 0) (.slice none 0 0)
      have HG := Lib.hid (stR_grown w1 w.heap.size (.int .i64 6) (.int .u32 0) (.string ⟨#[]⟩) (.int .i64 0) (.string ⟨T.toArray⟩) (.int .i64 0) (.int .u8 0) (.int .u32 0) (.int .u32 0) (.slice none 0 0))
      have HB9 := Lib.hid (below_st BL.out HG.out (Nat.le_refl _))
      clear y0 y1 y2 y3 y4 y5 y6 y7 y8 y9 z0 z1 z2 z3 z4 z5 z6 z7 z8 z9
      generalize stR w1 w.heap.size (.int .i64 6) (.int .u32 0) (.string ⟨#[]⟩) (.int .i64 0) (.string ⟨T.toArray⟩) (.int .i64 0) (.int .u8 0) (.int .u32 0) (.int .u32 0) (.slice none 0 0) = w9 at *
      obtain ⟨p0, p1, p2, p3, p4, p5, p6, p7, p8, p9⟩ := cells10 hq
      refine bodyPost_ret (v := rsV ⟨6, 0, [], 0, T, 0, 0, 0, 0, []⟩ none 0) (by simp [results, Tryz.results28, go_sem, p0, p1, p2, p3, p4, p5, p6, p7, p8, p9]; rfl) rfl (FtPo.of (q := ⟨6, 0, [], 0, T, 0, 0, 0, 0, []⟩) (A := none) (k := 0) HR.out.symm (World.ownsRow_nil _ _ _ _) HB9.out)
    have d4 := beq_no g1
    have G1 := Lib.hid g1
    clear g1
    by_cases g2 : G = [66, 89, 69]
    · subst g2
      have HR := Lib.hid (show M = ⟨7, 0, [], 0, T, 0, 0, 0, 0, []⟩ by rw [GE.out]; unfold guessF; rw [if_neg F1.out, if_neg (by simp), if_neg G0.out, if_neg G1.out, if_pos rfl])
      clear GE HA
      obtain ⟨y0, y1, y2, y3, y4, y5, y6, y7, y8, y9⟩ := cells10 BX.out
      have z0 := Joins.unfrozen_of_block BX.out 0
      have z1 := Joins.unfrozen_of_block BX.out 1
      have z2 := Joins.unfrozen_of_block BX.out 2
      have z3 := Joins.unfrozen_of_block BX.out 3
      have z4 := Joins.unfrozen_of_block BX.out 4
      have z5 := Joins.unfrozen_of_block BX.out 5
      have z6 := Joins.unfrozen_of_block BX.out 6
      have z7 := Joins.unfrozen_of_block BX.out 7
      have z8 := Joins.unfrozen_of_block BX.out 8
      have z9 := Joins.unfrozen_of_block BX.out 9
      go_wp2_with fail
      change bodyPost _ _ _ _ _ (stR w1 w.heap.size (.int .i64 7) (.int .u32 0) (.string ⟨#[]⟩) (.int .i64 0) (.string ⟨T.toArray⟩) (.int .i64 0) (.int .u8 0) (.int .u32 0) (.int .u32 0) (.slice none 0 0))
      have hq := stR_block BX.out (.int .i64 7) (.int .u32 0) (.string ⟨#[]⟩) (.int .i64 0) (.string ⟨T.toArray⟩) (.int .i64 0) (.int .u8 0) (.int .u32 0) (.int .u32 0) (.slice none 0 0)
      have HG := Lib.hid (stR_grown w1 w.heap.size (.int .i64 7) (.int .u32 0) (.string ⟨#[]⟩) (.int .i64 0) (.string ⟨T.toArray⟩) (.int .i64 0) (.int .u8 0) (.int .u32 0) (.int .u32 0) (.slice none 0 0))
      have HB9 := Lib.hid (below_st BL.out HG.out (Nat.le_refl _))
      clear y0 y1 y2 y3 y4 y5 y6 y7 y8 y9 z0 z1 z2 z3 z4 z5 z6 z7 z8 z9
      generalize stR w1 w.heap.size (.int .i64 7) (.int .u32 0) (.string ⟨#[]⟩) (.int .i64 0) (.string ⟨T.toArray⟩) (.int .i64 0) (.int .u8 0) (.int .u32 0) (.int .u32 0) (.slice none 0 0) = w9 at *
      obtain ⟨p0, p1, p2, p3, p4, p5, p6, p7, p8, p9⟩ := cells10 hq
      refine bodyPost_ret (v := rsV ⟨7, 0, [], 0, T, 0, 0, 0, 0, []⟩ none 0) (by simp [results, Tryz.results28, go_sem, p0, p1, p2, p3, p4, p5, p6, p7, p8, p9]; rfl) rfl (FtPo.of (q := ⟨7, 0, [], 0, T, 0, 0, 0, 0, []⟩) (A := none) (k := 0) HR.out.symm (World.ownsRow_nil _ _ _ _) HB9.out)
    have d5 := beq_no g2
    have G2 := Lib.hid g2
    clear g2
    by_cases g3 : G = [66, 65, 68]
    · subst g3
      have HR := Lib.hid (show M = ⟨8, 0, [], 0, T, 0, 0, 0, 0, []⟩ by rw [GE.out]; unfold guessF; rw [if_neg F1.out, if_neg (by simp), if_neg G0.out, if_neg G1.out, if_neg G2.out, if_pos rfl])
      clear GE HA
      obtain ⟨y0, y1, y2, y3, y4, y5, y6, y7, y8, y9⟩ := cells10 BX.out
      have z0 := Joins.unfrozen_of_block BX.out 0
      have z1 := Joins.unfrozen_of_block BX.out 1
      have z2 := Joins.unfrozen_of_block BX.out 2
      have z3 := Joins.unfrozen_of_block BX.out 3
      have z4 := Joins.unfrozen_of_block BX.out 4
      have z5 := Joins.unfrozen_of_block BX.out 5
      have z6 := Joins.unfrozen_of_block BX.out 6
      have z7 := Joins.unfrozen_of_block BX.out 7
      have z8 := Joins.unfrozen_of_block BX.out 8
      have z9 := Joins.unfrozen_of_block BX.out 9
      go_wp2_with fail
      change bodyPost _ _ _ _ _ (stR w1 w.heap.size (.int .i64 8) (.int .u32 0) (.string ⟨#[]⟩) (.int .i64 0) (.string ⟨T.toArray⟩) (.int .i64 0) (.int .u8 0) (.int .u32 0) (.int .u32 0) (.slice none 0 0))
      have hq := stR_block BX.out (.int .i64 8) (.int .u32 0) (.string ⟨#[]⟩) (.int .i64 0) (.string ⟨T.toArray⟩) (.int .i64 0) (.int .u8 0) (.int .u32 0) (.int .u32 0) (.slice none 0 0)
      have HG := Lib.hid (stR_grown w1 w.heap.size (.int .i64 8) (.int .u32 0) (.string ⟨#[]⟩) (.int .i64 0) (.string ⟨T.toArray⟩) (.int .i64 0) (.int .u8 0) (.int .u32 0) (.int .u32 0) (.slice none 0 0))
      have HB9 := Lib.hid (below_st BL.out HG.out (Nat.le_refl _))
      clear y0 y1 y2 y3 y4 y5 y6 y7 y8 y9 z0 z1 z2 z3 z4 z5 z6 z7 z8 z9
      generalize stR w1 w.heap.size (.int .i64 8) (.int .u32 0) (.string ⟨#[]⟩) (.int .i64 0) (.string ⟨T.toArray⟩) (.int .i64 0) (.int .u8 0) (.int .u32 0) (.int .u32 0) (.slice none 0 0) = w9 at *
      obtain ⟨p0, p1, p2, p3, p4, p5, p6, p7, p8, p9⟩ := cells10 hq
      refine bodyPost_ret (v := rsV ⟨8, 0, [], 0, T, 0, 0, 0, 0, []⟩ none 0) (by simp [results, Tryz.results28, go_sem, p0, p1, p2, p3, p4, p5, p6, p7, p8, p9]; rfl) rfl (FtPo.of (q := ⟨8, 0, [], 0, T, 0, 0, 0, 0, []⟩) (A := none) (k := 0) HR.out.symm (World.ownsRow_nil _ _ _ _) HB9.out)
    have d6 := beq_no g3
    have G3 := Lib.hid g3
    clear g3
    have NM := refNumber_any ⟨G.toArray⟩ (by rw [mk_size]; have := LE1.out.1; omega) w1
    rw [show (ByteArray.mk G.toArray).data.toList = G from rfl] at NM
    obtain ⟨oo, ho⟩ : ∃ oo, numOf G = oo := ⟨_, rfl⟩
    rw [ho] at NM
    have NM := Lib.hid NM
    have GE := Lib.hid (GE.out.trans (guess_n G0.out G1.out G2.out G3.out))
    rw [ho] at GE
    have HB9 := Lib.hid (fun u (h : oo = some u) => (numOf_some (ho.trans h)).1)
    clear ho
    go_wp2_with fail
    refine NM.out.mono ?_
    rintro e w2 ⟨rfl, rfl⟩
    clear NM d1 d3 d4 d5 d6
    cases oo with
    | none =>
      have HR := Lib.hid (show M = rsZero from GE.out)
      clear GE HA HB9
      obtain ⟨y0, y1, y2, y3, y4, y5, y6, y7, y8, y9⟩ := cells10 BX.out
      have z0 := Joins.unfrozen_of_block BX.out 0
      have z1 := Joins.unfrozen_of_block BX.out 1
      have z2 := Joins.unfrozen_of_block BX.out 2
      have z3 := Joins.unfrozen_of_block BX.out 3
      have z4 := Joins.unfrozen_of_block BX.out 4
      have z5 := Joins.unfrozen_of_block BX.out 5
      have z6 := Joins.unfrozen_of_block BX.out 6
      have z7 := Joins.unfrozen_of_block BX.out 7
      have z8 := Joins.unfrozen_of_block BX.out 8
      have z9 := Joins.unfrozen_of_block BX.out 9
      go_wp2_with fail
      change bodyPost _ _ _ _ _ (stR w1 w.heap.size (.int .i64 0) (.int .u32 0) (.string ⟨#[]⟩) (.int .i64 0) (.string ⟨#[]⟩) (.int .i64 0) (.int .u8 0) (.int .u32 0) (.int .u32 0) (.slice none 0 0))
      have hq := stR_block BX.out (.int .i64 0) (.int .u32 0) (.string ⟨#[]⟩) (.int .i64 0) (.string ⟨#[]⟩) (.int .i64 0) (.int .u8 0) (.int .u32 0) (.int .u32 0) (.slice none 0 0)
      have HG := Lib.hid (stR_grown w1 w.heap.size (.int .i64 0) (.int .u32 0) (.string ⟨#[]⟩) (.int .i64 0) (.string ⟨#[]⟩) (.int .i64 0) (.int .u8 0) (.int .u32 0) (.int .u32 0) (.slice none 0 0))
      have HB9 := Lib.hid (below_st BL.out HG.out (Nat.le_refl _))
      clear y0 y1 y2 y3 y4 y5 y6 y7 y8 y9 z0 z1 z2 z3 z4 z5 z6 z7 z8 z9
      generalize stR w1 w.heap.size (.int .i64 0) (.int .u32 0) (.string ⟨#[]⟩) (.int .i64 0) (.string ⟨#[]⟩) (.int .i64 0) (.int .u8 0) (.int .u32 0) (.int .u32 0) (.slice none 0 0) = w9 at *
      obtain ⟨p0, p1, p2, p3, p4, p5, p6, p7, p8, p9⟩ := cells10 hq
      refine bodyPost_ret (v := rsV rsZero none 0) (by simp [results, Tryz.results28, go_sem, p0, p1, p2, p3, p4, p5, p6, p7, p8, p9]; rfl) rfl (FtPo.of (q := rsZero) (A := none) (k := 0) HR.out.symm (World.ownsRow_nil _ _ _ _) HB9.out)
    | some u =>
      have hu := HB9.out u rfl
      have GE := Lib.hid (show M = if T = [69, 88, 73, 83, 84, 83] then ⟨1, u, [], 0, [], 0, 0, 0, 0, []⟩
        else if T = [82, 69, 67, 69, 78, 84] then ⟨2, u, [], 0, [], 0, 0, 0, 0, []⟩
        else if T = [69, 88, 80, 85, 78, 71, 69] then ⟨3, u, [], 0, [], 0, 0, 0, 0, []⟩
        else if List.isPrefixOf [70, 69, 84, 67, 72, 32, 40] (l.drop k2) then fetM litO 5 ((l.drop k2).drop 7) (rpR u 0 0 0 0 [])
        else rsZero from GE.out)
      clear HB9
      by_cases t0 : T = [69, 88, 73, 83, 84, 83]
      · subst t0
        have HR := Lib.hid (show M = ⟨1, u, [], 0, [], 0, 0, 0, 0, []⟩ by rw [GE.out, if_pos rfl])
        clear GE HA
        obtain ⟨y0, y1, y2, y3, y4, y5, y6, y7, y8, y9⟩ := cells10 BX.out
        have z0 := Joins.unfrozen_of_block BX.out 0
        have z1 := Joins.unfrozen_of_block BX.out 1
        have z2 := Joins.unfrozen_of_block BX.out 2
        have z3 := Joins.unfrozen_of_block BX.out 3
        have z4 := Joins.unfrozen_of_block BX.out 4
        have z5 := Joins.unfrozen_of_block BX.out 5
        have z6 := Joins.unfrozen_of_block BX.out 6
        have z7 := Joins.unfrozen_of_block BX.out 7
        have z8 := Joins.unfrozen_of_block BX.out 8
        have z9 := Joins.unfrozen_of_block BX.out 9
        go_wp2_with fail
        change bodyPost _ _ _ _ _ (stR w1 w.heap.size (.int .i64 1) (.int .u32 (u : Int)) (.string ⟨#[]⟩) (.int .i64 0) (.string ⟨#[]⟩) (.int .i64 0) (.int .u8 0) (.int .u32 0) (.int .u32 0) (.slice none 0 0))
        have hq := stR_block BX.out (.int .i64 1) (.int .u32 (u : Int)) (.string ⟨#[]⟩) (.int .i64 0) (.string ⟨#[]⟩) (.int .i64 0) (.int .u8 0) (.int .u32 0) (.int .u32 0) (.slice none 0 0)
        have HG := Lib.hid (stR_grown w1 w.heap.size (.int .i64 1) (.int .u32 (u : Int)) (.string ⟨#[]⟩) (.int .i64 0) (.string ⟨#[]⟩) (.int .i64 0) (.int .u8 0) (.int .u32 0) (.int .u32 0) (.slice none 0 0))
        have HB9 := Lib.hid (below_st BL.out HG.out (Nat.le_refl _))
        clear y0 y1 y2 y3 y4 y5 y6 y7 y8 y9 z0 z1 z2 z3 z4 z5 z6 z7 z8 z9
        generalize stR w1 w.heap.size (.int .i64 1) (.int .u32 (u : Int)) (.string ⟨#[]⟩) (.int .i64 0) (.string ⟨#[]⟩) (.int .i64 0) (.int .u8 0) (.int .u32 0) (.int .u32 0) (.slice none 0 0) = w9 at *
        obtain ⟨p0, p1, p2, p3, p4, p5, p6, p7, p8, p9⟩ := cells10 hq
        refine bodyPost_ret (v := rsV ⟨1, u, [], 0, [], 0, 0, 0, 0, []⟩ none 0) (by simp [results, Tryz.results28, go_sem, p0, p1, p2, p3, p4, p5, p6, p7, p8, p9]; rfl) rfl (FtPo.of (q := ⟨1, u, [], 0, [], 0, 0, 0, 0, []⟩) (A := none) (k := 0) HR.out.symm (World.ownsRow_nil _ _ _ _) HB9.out)
      have e0 := beq_no t0
      have T0 := Lib.hid t0
      clear t0
      by_cases t1 : T = [82, 69, 67, 69, 78, 84]
      · subst t1
        have HR := Lib.hid (show M = ⟨2, u, [], 0, [], 0, 0, 0, 0, []⟩ by rw [GE.out, if_neg T0.out, if_pos rfl])
        clear GE HA
        obtain ⟨y0, y1, y2, y3, y4, y5, y6, y7, y8, y9⟩ := cells10 BX.out
        have z0 := Joins.unfrozen_of_block BX.out 0
        have z1 := Joins.unfrozen_of_block BX.out 1
        have z2 := Joins.unfrozen_of_block BX.out 2
        have z3 := Joins.unfrozen_of_block BX.out 3
        have z4 := Joins.unfrozen_of_block BX.out 4
        have z5 := Joins.unfrozen_of_block BX.out 5
        have z6 := Joins.unfrozen_of_block BX.out 6
        have z7 := Joins.unfrozen_of_block BX.out 7
        have z8 := Joins.unfrozen_of_block BX.out 8
        have z9 := Joins.unfrozen_of_block BX.out 9
        go_wp2_with fail
        change bodyPost _ _ _ _ _ (stR w1 w.heap.size (.int .i64 2) (.int .u32 (u : Int)) (.string ⟨#[]⟩) (.int .i64 0) (.string ⟨#[]⟩) (.int .i64 0) (.int .u8 0) (.int .u32 0) (.int .u32 0) (.slice none 0 0))
        have hq := stR_block BX.out (.int .i64 2) (.int .u32 (u : Int)) (.string ⟨#[]⟩) (.int .i64 0) (.string ⟨#[]⟩) (.int .i64 0) (.int .u8 0) (.int .u32 0) (.int .u32 0) (.slice none 0 0)
        have HG := Lib.hid (stR_grown w1 w.heap.size (.int .i64 2) (.int .u32 (u : Int)) (.string ⟨#[]⟩) (.int .i64 0) (.string ⟨#[]⟩) (.int .i64 0) (.int .u8 0) (.int .u32 0) (.int .u32 0) (.slice none 0 0))
        have HB9 := Lib.hid (below_st BL.out HG.out (Nat.le_refl _))
        clear y0 y1 y2 y3 y4 y5 y6 y7 y8 y9 z0 z1 z2 z3 z4 z5 z6 z7 z8 z9
        generalize stR w1 w.heap.size (.int .i64 2) (.int .u32 (u : Int)) (.string ⟨#[]⟩) (.int .i64 0) (.string ⟨#[]⟩) (.int .i64 0) (.int .u8 0) (.int .u32 0) (.int .u32 0) (.slice none 0 0) = w9 at *
        obtain ⟨p0, p1, p2, p3, p4, p5, p6, p7, p8, p9⟩ := cells10 hq
        refine bodyPost_ret (v := rsV ⟨2, u, [], 0, [], 0, 0, 0, 0, []⟩ none 0) (by simp [results, Tryz.results28, go_sem, p0, p1, p2, p3, p4, p5, p6, p7, p8, p9]; rfl) rfl (FtPo.of (q := ⟨2, u, [], 0, [], 0, 0, 0, 0, []⟩) (A := none) (k := 0) HR.out.symm (World.ownsRow_nil _ _ _ _) HB9.out)
      have e1 := beq_no t1
      have T1 := Lib.hid t1
      clear t1
      by_cases t2 : T = [69, 88, 80, 85, 78, 71, 69]
      · subst t2
        have HR := Lib.hid (show M = ⟨3, u, [], 0, [], 0, 0, 0, 0, []⟩ by rw [GE.out, if_neg T0.out, if_neg T1.out, if_pos rfl])
        clear GE HA
        obtain ⟨y0, y1, y2, y3, y4, y5, y6, y7, y8, y9⟩ := cells10 BX.out
        have z0 := Joins.unfrozen_of_block BX.out 0
        have z1 := Joins.unfrozen_of_block BX.out 1
        have z2 := Joins.unfrozen_of_block BX.out 2
        have z3 := Joins.unfrozen_of_block BX.out 3
        have z4 := Joins.unfrozen_of_block BX.out 4
        have z5 := Joins.unfrozen_of_block BX.out 5
        have z6 := Joins.unfrozen_of_block BX.out 6
        have z7 := Joins.unfrozen_of_block BX.out 7
        have z8 := Joins.unfrozen_of_block BX.out 8
        have z9 := Joins.unfrozen_of_block BX.out 9
        go_wp2_with fail
        change bodyPost _ _ _ _ _ (stR w1 w.heap.size (.int .i64 3) (.int .u32 (u : Int)) (.string ⟨#[]⟩) (.int .i64 0) (.string ⟨#[]⟩) (.int .i64 0) (.int .u8 0) (.int .u32 0) (.int .u32 0) (.slice none 0 0))
        have hq := stR_block BX.out (.int .i64 3) (.int .u32 (u : Int)) (.string ⟨#[]⟩) (.int .i64 0) (.string ⟨#[]⟩) (.int .i64 0) (.int .u8 0) (.int .u32 0) (.int .u32 0) (.slice none 0 0)
        have HG := Lib.hid (stR_grown w1 w.heap.size (.int .i64 3) (.int .u32 (u : Int)) (.string ⟨#[]⟩) (.int .i64 0) (.string ⟨#[]⟩) (.int .i64 0) (.int .u8 0) (.int .u32 0) (.int .u32 0) (.slice none 0 0))
        have HB9 := Lib.hid (below_st BL.out HG.out (Nat.le_refl _))
        clear y0 y1 y2 y3 y4 y5 y6 y7 y8 y9 z0 z1 z2 z3 z4 z5 z6 z7 z8 z9
        generalize stR w1 w.heap.size (.int .i64 3) (.int .u32 (u : Int)) (.string ⟨#[]⟩) (.int .i64 0) (.string ⟨#[]⟩) (.int .i64 0) (.int .u8 0) (.int .u32 0) (.int .u32 0) (.slice none 0 0) = w9 at *
        obtain ⟨p0, p1, p2, p3, p4, p5, p6, p7, p8, p9⟩ := cells10 hq
        refine bodyPost_ret (v := rsV ⟨3, u, [], 0, [], 0, 0, 0, 0, []⟩ none 0) (by simp [results, Tryz.results28, go_sem, p0, p1, p2, p3, p4, p5, p6, p7, p8, p9]; rfl) rfl (FtPo.of (q := ⟨3, u, [], 0, [], 0, 0, 0, 0, []⟩) (A := none) (k := 0) HR.out.symm (World.ownsRow_nil _ _ _ _) HB9.out)
      have e2 := beq_no t2
      have T2 := Lib.hid t2
      clear t2
      have GE := Lib.hid (show M = if List.isPrefixOf [70, 69, 84, 67, 72, 32, 40] (l.drop k2) then fetM litO 5 ((l.drop k2).drop 7) (rpR u 0 0 0 0 []) else rsZero by rw [GE.out, if_neg T0.out, if_neg T1.out, if_neg T2.out])
      have S1 := Lib.hid (starts_any w.heap.size c n k2 A l [70, 69, 84, 67, 72, 32, 40] HN.out hk2 hl (by decide) w1 (HA.out w1 BL.out))
      cases p1 : List.isPrefixOf [70, 69, 84, 67, 72, 32, 40] (l.drop k2) with
      | false =>
        have HR := Lib.hid (show M = rsZero by rw [GE.out, if_neg (by rw [p1]; decide)])
        rw [p1] at S1
        clear p1 GE HA
        obtain ⟨y0, y1, y2, y3, y4, y5, y6, y7, y8, y9⟩ := cells10 BX.out
        have z0 := Joins.unfrozen_of_block BX.out 0
        have z1 := Joins.unfrozen_of_block BX.out 1
        have z2 := Joins.unfrozen_of_block BX.out 2
        have z3 := Joins.unfrozen_of_block BX.out 3
        have z4 := Joins.unfrozen_of_block BX.out 4
        have z5 := Joins.unfrozen_of_block BX.out 5
        have z6 := Joins.unfrozen_of_block BX.out 6
        have z7 := Joins.unfrozen_of_block BX.out 7
        have z8 := Joins.unfrozen_of_block BX.out 8
        have z9 := Joins.unfrozen_of_block BX.out 9
        go_wp2_with fail
        refine S1.out.mono ?_
        rintro e w2 ⟨rfl, rfl⟩
        go_wp2_with fail
        change bodyPost _ _ _ _ _ (stR w1 w.heap.size (.int .i64 0) (.int .u32 0) (.string ⟨#[]⟩) (.int .i64 0) (.string ⟨#[]⟩) (.int .i64 0) (.int .u8 0) (.int .u32 0) (.int .u32 0) (.slice none 0 0))
        have hq := stR_block BX.out (.int .i64 0) (.int .u32 0) (.string ⟨#[]⟩) (.int .i64 0) (.string ⟨#[]⟩) (.int .i64 0) (.int .u8 0) (.int .u32 0) (.int .u32 0) (.slice none 0 0)
        have HG := Lib.hid (stR_grown w1 w.heap.size (.int .i64 0) (.int .u32 0) (.string ⟨#[]⟩) (.int .i64 0) (.string ⟨#[]⟩) (.int .i64 0) (.int .u8 0) (.int .u32 0) (.int .u32 0) (.slice none 0 0))
        have HB9 := Lib.hid (below_st BL.out HG.out (Nat.le_refl _))
        clear y0 y1 y2 y3 y4 y5 y6 y7 y8 y9 z0 z1 z2 z3 z4 z5 z6 z7 z8 z9
        generalize stR w1 w.heap.size (.int .i64 0) (.int .u32 0) (.string ⟨#[]⟩) (.int .i64 0) (.string ⟨#[]⟩) (.int .i64 0) (.int .u8 0) (.int .u32 0) (.int .u32 0) (.slice none 0 0) = w9 at *
        obtain ⟨p0, p1, p2, p3, p4, p5, p6, p7, p8, p9⟩ := cells10 hq
        refine bodyPost_ret (v := rsV rsZero none 0) (by simp [results, Tryz.results28, go_sem, p0, p1, p2, p3, p4, p5, p6, p7, p8, p9]; rfl) rfl (FtPo.of (q := rsZero) (A := none) (k := 0) HR.out.symm (World.ownsRow_nil _ _ _ _) HB9.out)
      | true =>
        have HR := Lib.hid (show M = fetM litO 5 (l.drop (k2 + 7)) (rpR u 0 0 0 0 []) by rw [GE.out, if_pos p1, List.drop_drop])
        have hk7 : k2 + 7 ≤ n := by
          have := pre_le p1
          rw [List.length_drop, HN.out] at this
          simp at this
          omega
        have HSZ := Lib.hid (show w.heap.size ≤ w1.heap.size from BL.out.size)
        have FE := fetched10_any c n (k2 + 7) A l HN.out hk7 hl u hu w1 (HA.out w1 BL.out).here
        rw [← HR.out, show ((k2 + 7 : Nat) : Int) = (k2 : Int) + 7 by omega] at FE
        unfold FtPo at FE
        have FE := Lib.hid (show Calls Tryz.prog 44 #[.slice A n c, .int .i64 ((k2 : Int) + 7), .agg #[.int .i64 4, .int .u32 (u : Int), .string ⟨#[]⟩, .int .i64 0, .string ⟨#[]⟩, .int .i64 0, .int .u8 0, .int .u32 0, .int .u32 0, .slice none 0 0]] w1 fun e w' => ∃ A' c', e = .returned (.agg #[.int .i64 M.kind, .int .u32 (M.n : Int), .string ⟨M.tag.toArray⟩, .int .i64 M.status, .string ⟨M.text.toArray⟩, .int .i64 M.items, .int .u8 (M.flags : Int), .int .u32 (M.uid : Int), .int .u32 (M.size : Int), .slice A' M.body.length c']) ∧ w'.ownsRow w1.heap.size 5 1 (.slice A' M.body.length c') M.body.length (flatL encB M.body) ∧ Below w1.heap.size w1 w' from FE)
        rw [p1] at S1
        clear p1 GE HA
        go_wp2_with fail
        refine S1.out.mono ?_
        rintro e w2 ⟨rfl, rfl⟩
        go_wp2_with fail
        refine FE.out.mono ?_
        rintro e w2 ⟨A', c', rfl, hown, hb2⟩
        have BX2 := Lib.hid ((hb2.block w.heap.size (Array.getElem?_eq_some_iff.1 BX.out).1).trans BX.out)
        have BL2 := Lib.hid (below_next BL.out hb2)
        have HLT := Lib.hid (Array.getElem?_eq_some_iff.1 BX.out).1
        have HO := Lib.hid hown
        clear hown hb2 FE S1 BX BL hk7 hk1 hk2 e0 e1 e2
        generalize hv2 : ByteArray.mk M.tag.toArray = v2 at *
        generalize hv4 : ByteArray.mk M.text.toArray = v4 at *
        have HV2 := Lib.hid hv2
        have HV4 := Lib.hid hv4
        clear hv2 hv4
        obtain ⟨y0, y1, y2, y3, y4, y5, y6, y7, y8, y9⟩ := cells10 BX2.out
        have z0 := Joins.unfrozen_of_block BX2.out 0
        have z1 := Joins.unfrozen_of_block BX2.out 1
        have z2 := Joins.unfrozen_of_block BX2.out 2
        have z3 := Joins.unfrozen_of_block BX2.out 3
        have z4 := Joins.unfrozen_of_block BX2.out 4
        have z5 := Joins.unfrozen_of_block BX2.out 5
        have z6 := Joins.unfrozen_of_block BX2.out 6
        have z7 := Joins.unfrozen_of_block BX2.out 7
        have z8 := Joins.unfrozen_of_block BX2.out 8
        have z9 := Joins.unfrozen_of_block BX2.out 9
        go_wp2_with fail
        change bodyPost _ _ _ _ _ (stR w2 w.heap.size (.int .i64 M.kind) (.int .u32 (M.n : Int)) (.string v2) (.int .i64 M.status) (.string v4) (.int .i64 M.items) (.int .u8 (M.flags : Int)) (.int .u32 (M.uid : Int)) (.int .u32 (M.size : Int)) (.slice A' M.body.length c'))
        have hq := stR_block BX2.out (.int .i64 M.kind) (.int .u32 (M.n : Int)) (.string v2) (.int .i64 M.status) (.string v4) (.int .i64 M.items) (.int .u8 (M.flags : Int)) (.int .u32 (M.uid : Int)) (.int .u32 (M.size : Int)) (.slice A' M.body.length c')
        have HG := Lib.hid (stR_grown w2 w.heap.size (.int .i64 M.kind) (.int .u32 (M.n : Int)) (.string v2) (.int .i64 M.status) (.string v4) (.int .i64 M.items) (.int .u8 (M.flags : Int)) (.int .u32 (M.uid : Int)) (.int .u32 (M.size : Int)) (.slice A' M.body.length c'))
        have HB9 := Lib.hid (below_st BL2.out HG.out (Nat.le_refl _))
        have HOW := Lib.hid (own_base9 (own_past9 HO.out HG.out HLT.out) HSZ.out)
        clear y0 y1 y2 y3 y4 y5 y6 y7 y8 y9 z0 z1 z2 z3 z4 z5 z6 z7 z8 z9
        generalize stR w2 w.heap.size (.int .i64 M.kind) (.int .u32 (M.n : Int)) (.string v2) (.int .i64 M.status) (.string v4) (.int .i64 M.items) (.int .u8 (M.flags : Int)) (.int .u32 (M.uid : Int)) (.int .u32 (M.size : Int)) (.slice A' M.body.length c') = w9 at *
        obtain ⟨p0, p1, p2, p3, p4, p5, p6, p7, p8, p9⟩ := cells10 hq
        refine bodyPost_ret (v := .agg #[.int .i64 M.kind, .int .u32 (M.n : Int), .string v2, .int .i64 M.status, .string v4, .int .i64 M.items, .int .u8 (M.flags : Int), .int .u32 (M.uid : Int), .int .u32 (M.size : Int), .slice A' M.body.length c']) (by simp [results, Tryz.results28, go_sem, p0, p1, p2, p3, p4, p5, p6, p7, p8, p9]) rfl ?_
        obtain rfl := HV2.out
        obtain rfl := HV4.out
        exact FtPo.of rfl HOW.out HB9.out
end Go.Proofs.YtpoejnajnaolpaaGreatDoor
