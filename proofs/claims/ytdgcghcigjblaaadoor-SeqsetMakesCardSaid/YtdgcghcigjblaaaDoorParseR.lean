/- seqset: parseNumber, parseRange; strings.Cut at a separator of one byte. -/
import Derived.Test.YtdgcghcigjblaaaDoorSeqA
import Derived.Test.YtdgcghcigjblaaaDoorNum
import Derived.Test.YtdgcghcigjblaaaDoorSplitMath
import Derived.Shelf.Strings.Search3
import Derived.Deep.QuietTactic
import Derived.BigQuiet
namespace Go.Proofs.YtdgcghcigjblaaaDoor
open Go.RowKit Go.Shelf

/-- The number of a form; 0 and false if it has none. -/
def numP (l : List UInt8) : Nat × Bool := if l = [42] then (0, true) else ((numOf l).getD 0, (numOf l).isSome && decide (0 < (numOf l).getD 0))

set_option maxHeartbeats 1000000 in
theorem parseNumber_any (s : ByteArray) (hs : s.size ≤ 1000000000) (w : World) (henv : Env w) :
    Calls Tryd.prog 42 #[.string s] w fun e w' => e = .returned (.tuple #[.int .u32 ((numP s.data.toList).1 : Nat), .bool (numP s.data.toList).2]) ∧ Below w.heap.size w w' := by
  have hb := btl s
  unfold numP
  by_cases h : s.data.toList = [42]
  · have h1 : (s.toList == [42]) = true := by rw [hb, h]; rfl
    rw [if_pos h]
    clear h henv hb
    go_enter Tryd.func42, Tryd.ntmps42
    go_wp2
    go_ret2
    exact ⟨rfl, Below.refl _ _⟩
  · have h1 : (s.toList == [42]) = false := by rw [hb]; simpa using h
    rw [if_neg h]
    have N := Lib.hid (number_any s (by omega) w henv)
    clear h henv hb
    generalize (numOf s.data.toList).getD 0 = x at *
    generalize (numOf s.data.toList).isSome = y at *
    go_enter Tryd.func42, Tryd.ntmps42
    cases y with
    | false =>
      go_wp2_with fail
      refine N.out.mono ?_
      rintro e w1 ⟨rfl, h2⟩
      go_wp2_with fail
      go_ret2
      exact ⟨by simp, h2⟩
    | true =>
      by_cases h0 : 0 < x
      · go_wp2_with fail
        refine N.out.mono ?_
        rintro e w1 ⟨rfl, h2⟩
        go_wp2_with fail
        go_ret2
        exact ⟨by simp [h0], h2⟩
      · go_wp2_with fail
        refine N.out.mono ?_
        rintro e w1 ⟨rfl, h2⟩
        go_wp2_with fail
        go_ret2
        exact ⟨by simp [h0], h2⟩

theorem below_drewN {B : Nat} {a w : World} (h : Below B a w) (n : Nat) : Below B a (w.drewN n) := ⟨h.os, h.tape, h.output, h.size, h.block⟩

theorem slIndex (s : ByteArray) (c : UInt8) (w : World) : Calls Tryd.prog 61 #[.string s, .string ⟨#[c]⟩] w fun e w' => e = .returned (.int .i64 (Lib.indexByte s.data.toList c)) ∧ w' = w := Any.stringslite_Index_one Tryd.lays219 s c w

set_option maxHeartbeats 1000000 in
theorem slCut_none (s : ByteArray) (c : UInt8) (w : World) (h : Lib.indexByte s.data.toList c = -1) :
    Calls Tryd.prog 54 #[.string s, .string ⟨#[c]⟩] w fun e w' => e = .returned (.tuple #[.string s, .string ⟨#[]⟩, .bool false]) ∧ Below w.heap.size w w' := by
  have I := slIndex s c w
  rw [h] at I
  have I := Lib.hid I
  clear h
  go_enter Tryd.func54, Tryd.ntmps54
  go_wp2_with fail
  refine I.out.mono ?_
  rintro e w' ⟨rfl, rfl⟩
  clear I
  go_wp2_with fail
  go_ret3
  exact ⟨rfl, Below.refl _ _⟩

set_option maxHeartbeats 1000000 in
theorem slCut_at (s : ByteArray) (hs : s.size ≤ 1000000000) (c : UInt8) (o : Nat) (ho : o < s.size) (w : World) (h : Lib.indexByte s.data.toList c = o) :
    Calls Tryd.prog 54 #[.string s, .string ⟨#[c]⟩] w fun e w' => e = .returned (.tuple #[.string (s.extract 0 o), .string (s.extract (o + 1) s.size), .bool true]) ∧ Below w.heap.size w w' := by
  have I := slIndex s c w
  rw [h] at I
  have I := Lib.hid I
  clear h
  go_enter Tryd.func54, Tryd.ntmps54
  go_wp2_with fail
  refine I.out.mono ?_
  rintro e w' ⟨rfl, rfl⟩
  clear I
  go_wp2_with fail
  go_quiet (fail)
  go_wp2_with fail
  go_ret3
  exact ⟨rfl, below_drewN (Below.refl _ _) _⟩

theorem cut_any (s : ByteArray) (c : UInt8) (w : World) {a b : ByteArray} {f : Bool} (h : Calls Tryd.prog 54 #[.string s, .string ⟨#[c]⟩] w fun e w' => e = .returned (.tuple #[.string a, .string b, .bool f]) ∧ Below w.heap.size w w') :
    Calls Tryd.prog 41 #[.string s, .string ⟨#[c]⟩] w fun e w' => e = .returned (.tuple #[.string a, .string b, .bool f]) ∧ Below w.heap.size w w' := by
  have H := Lib.hid h
  clear h
  go_enter Tryd.func41, Tryd.ntmps41
  go_wp2_with fail
  refine H.out.mono ?_
  rintro e w' ⟨rfl, hb⟩
  go_wp2_with fail
  go_ret3
  exact ⟨rfl, hb⟩

/-- The range of a form, and whether it has one. -/
def rngP (l : List UInt8) : R × Bool :=
  if Lib.indexByte l 58 < 0 then (((numP l).1, (numP l).1), (numP l).2)
  else (((numP (l.take (Lib.indexByte l 58).toNat)).1, (numP (l.drop ((Lib.indexByte l 58).toNat + 1))).1), (numP (l.take (Lib.indexByte l 58).toNat)).2 && (numP (l.drop ((Lib.indexByte l 58).toNat + 1))).2)

theorem ext_take (t : ByteArray) (o : Nat) : (t.extract 0 o).data.toList = t.data.toList.take o := by
  rw [ByteArray.data_extract, Array.toList_extract]; simp
theorem ext_drop (t : ByteArray) (o : Nat) : (t.extract o t.size).data.toList = t.data.toList.drop o := by
  rw [ByteArray.data_extract, Array.toList_extract]
  exact List.take_of_length_le (by rw [List.length_drop, Array.length_toList]; exact Nat.le_refl _)

set_option maxRecDepth 100000 in
set_option maxHeartbeats 2000000 in
theorem parseRange_any (s : ByteArray) (hs : s.size ≤ 1000000000) (w : World) (henv : Env w) :
    Calls Tryd.prog 28 #[.string s] w fun e w' => e = .returned (.tuple #[.agg #[.int .u32 ((rngP s.data.toList).1.1 : Nat), .int .u32 ((rngP s.data.toList).1.2 : Nat)], .bool (rngP s.data.toList).2]) ∧ Below w.heap.size w w' := by
  have HE := fun w1 (hB : Below w.heap.size w w1) => Lib.hid (henv.below hB)
  clear henv
  unfold rngP
  by_cases hneg : Lib.indexByte s.data.toList 58 < 0
  · rw [if_pos hneg]
    obtain ⟨he, _⟩ := index_neg hneg
    have C := fun w1 => Lib.hid (cut_any s 58 w1 (slCut_none s 58 w1 he))
    have N := fun w1 (h : Hid (Env w1)) => Lib.hid (parseNumber_any s hs w1 h.out)
    clear he hneg
    generalize (numP s.data.toList) = a at *
    obtain ⟨x, y⟩ := a
    have P := fun w1 => Lib.hid (point_any x w1)
    dsimp only at N ⊢
    go_enter Tryd.func28, Tryd.ntmps28
    go_wp2_with fail
    refine (C _).out.mono ?_
    rintro e w1 ⟨rfl, h1⟩
    have hB1 := below_next ((Below.refl w.heap.size w).alloc (Nat.le_refl _) _) h1
    have hX := (h1.block w.heap.size (by simp)).trans (heap_alloc_new w (.cells #[.int .u32 0, .int .u32 0] 32))
    have HX := Lib.hid hX
    clear h1 C hX
    go_wp2_with fail
    refine (N _ (HE _ hB1)).out.mono ?_
    rintro e w2 ⟨rfl, h2⟩
    have hB2 := below_next hB1 h2
    have HX := Lib.hid ((h2.block w.heap.size (Array.getElem?_eq_some_iff.1 HX.out).1).trans HX.out)
    clear h2 N hB1 HE
    go_wp2_with fail
    refine (P _).out.mono ?_
    rintro e w3 ⟨rfl, h2⟩
    have hB3 := below_next hB2 h2
    have hX := (h2.block w.heap.size (Array.getElem?_eq_some_iff.1 HX.out).1).trans HX.out
    have hc0 := cell_of_row w3 w.heap.size 0 _ _ _ hX
    have hc1 := cell_of_row w3 w.heap.size 1 _ _ _ hX
    have hf0 : w3.frozen? ⟨w.heap.size, 0, none⟩ = false := by simp [World.frozen?, hX]
    have hf1 : w3.frozen? ⟨w.heap.size, 1, none⟩ = false := by simp [World.frozen?, hX]
    simp at hc0 hc1
    clear h2 hB2 hX HX P
    go_wp2_with fail
    refine bodyPost_ret (v := .tuple #[.agg #[.int .u32 (x : Int), .int .u32 (x : Int)], .bool y]) (by simp [results, Tryd.results28, go_sem, hc0, hc1]) rfl ⟨rfl, (hB3.setCell (p := ⟨w.heap.size, 0, none⟩) (Nat.le_refl _) _).setCell (p := ⟨w.heap.size, 1, none⟩) (Nat.le_refl _) _⟩
  · rw [if_neg hneg]
    obtain ⟨o, he, ho, _, _⟩ := index_nat hneg
    have hos : o < s.size := by rw [Array.length_toList] at ho; exact ho
    rw [he, Int.toNat_natCast, ← ext_take s o, ← ext_drop s (o + 1)]
    have C := fun w1 => Lib.hid (cut_any s 58 w1 (slCut_at s hs 58 o hos w1 he))
    have l1 : (s.extract 0 o).size ≤ 1000000000 := by rw [ByteArray.size_extract]; omega
    have l2 : (s.extract (o + 1) s.size).size ≤ 1000000000 := by rw [ByteArray.size_extract]; omega
    clear he hneg ho hos hs
    generalize s.extract 0 o = s1 at *
    generalize s.extract (o + 1) s.size = s2 at *
    have N1 := fun w1 (h : Hid (Env w1)) => Lib.hid (parseNumber_any s1 l1 w1 h.out)
    have N2 := fun w1 (h : Hid (Env w1)) => Lib.hid (parseNumber_any s2 l2 w1 h.out)
    generalize (numP s1.data.toList) = a at *
    generalize (numP s2.data.toList) = b at *
    obtain ⟨x, y⟩ := a
    obtain ⟨x2, y2⟩ := b
    dsimp only at N1 N2 ⊢
    go_enter Tryd.func28, Tryd.ntmps28
    go_wp2_with fail
    refine (C _).out.mono ?_
    rintro e w1 ⟨rfl, h1⟩
    have hB1 := below_next ((Below.refl w.heap.size w).alloc (Nat.le_refl _) _) h1
    have hX := (h1.block w.heap.size (by simp)).trans (heap_alloc_new w (.cells #[.int .u32 0, .int .u32 0] 32))
    have HX := Lib.hid hX
    clear h1 C hX
    go_wp2_with fail
    refine (N1 _ (HE _ hB1)).out.mono ?_
    rintro e w2 ⟨rfl, h2⟩
    have hB2 := below_next hB1 h2
    have HX := Lib.hid ((h2.block w.heap.size (Array.getElem?_eq_some_iff.1 HX.out).1).trans HX.out)
    clear h2 N1 hB1
    go_wp2_with fail
    refine (N2 _ (HE _ hB2)).out.mono ?_
    rintro e w3 ⟨rfl, h2⟩
    have hB3 := below_next hB2 h2
    have hX := (h2.block w.heap.size (Array.getElem?_eq_some_iff.1 HX.out).1).trans HX.out
    have hc0 := cell_of_row w3 w.heap.size 0 _ _ _ hX
    have hc1 := cell_of_row w3 w.heap.size 1 _ _ _ hX
    have hf0 : w3.frozen? ⟨w.heap.size, 0, none⟩ = false := by simp [World.frozen?, hX]
    have hf1 : w3.frozen? ⟨w.heap.size, 1, none⟩ = false := by simp [World.frozen?, hX]
    simp at hc0 hc1
    clear h2 hB2 hX HX N2 HE
    cases y <;> cases y2
    all_goals
      go_wp2_with fail
      refine bodyPost_ret (v := .tuple #[.agg #[.int .u32 (x : Int), .int .u32 (x2 : Int)], .bool _]) (by simp [results, Tryd.results28, go_sem, hc0, hc1]) rfl ⟨rfl, (hB3.setCell (p := ⟨w.heap.size, 0, none⟩) (Nat.le_refl _) _).setCell (p := ⟨w.heap.size, 1, none⟩) (Nat.le_refl _) _⟩
end Go.Proofs.YtdgcghcigjblaaaDoor
