/- The examples of chapter 4: the law's own 'alive'. -/
import Derived.Test.YtnjmaofoalgagaaDoorAnnF
import Derived.Test.YtnjmaofoalgagaaDoorLit
import Derived.Lib.SlBytesConst
namespace Go.Proofs.YtnjmaofoalgagaaDoor
open Go.RowKit
open Go.Lib hiding intOf

/-- Bytes laid by a literal. -/
theorem byAt_lit (w : World) (l : List UInt8) (C : Array Value) (hC : (cellsB l).toArray = C) (t : TypeId) (fr : Nat × Nat) : ByAt (w.heap.size + 1) (w.alloc (.cells C t fr)) (some ⟨w.heap.size, 0, none⟩) l.length l := by
  subst hC
  refine ⟨Nat.le_refl _, .inr ⟨w.heap.size, 0, rfl, by omega, by simp, fun j hj => ?_⟩⟩
  rw [Nat.zero_add, World.cell?_alloc_mark]
  simp [cellsB, hj]

theorem dec_5 : decDigits 5 = [53] := by rw [decDigits]; rfl
theorem dec_2 : decDigits 2 = [50] := by rw [decDigits]; rfl
theorem ann_ex : IsAnn [97, 32, 83, 69, 76, 69, 67, 84, 32, 123, 53, 125] (some 5) := ⟨by omega, [97, 32, 83, 69, 76, 69, 67, 84, 32], by rw [dec_5]; rfl⟩
theorem announced_ex (B : Nat) (A : Option Addr) (w : World) (henv : Env w) (hA : ByAt B w A 12 [97, 32, 83, 69, 76, 69, 67, 84, 32, 123, 53, 125]) :
    Calls Tryd.prog 17 #[.slice A 12 12] w fun e w' => e = .returned (.tuple #[.int .i64 5, .bool true]) ∧ Below w.heap.size w w' := by
  refine (announced_any B 12 A _ (by decide) w henv hA).mono ?_
  rintro e w' ⟨⟨o, ho, rfl⟩, hb⟩
  obtain rfl := isAnn_eq ho ann_ex
  exact ⟨rfl, hb⟩
theorem quoted_ex (B : Nat) (A : Option Addr) (w : World) (hA : ByAt B w A 3 [97, 34, 98]) :
    Calls Tryd.prog 10 #[.slice A 3 3] w fun e w' => e = .returned (.tuple #[.string ⟨#[34, 97, 92, 34, 98, 34]⟩, .bool true]) ∧ Below w.heap.size w w' := by
  have h := quoted_any B A 3 [97, 34, 98] (by decide) w hA
  rw [show allT [97, 34, 98] = true by decide, if_pos rfl, show quotedL [97, 34, 98] = [34, 97, 92, 34, 98, 34] by decide] at h
  exact h
theorem literal_ex (B : Nat) (A : Option Addr) (w : World) (henv : Env w) (hA : ByAt B w A 2 [97, 98]) :
    Calls Tryd.prog 13 #[.slice A 2 2] w fun e w' => ∃ A' c', e = .returned (.slice A' 7 c') ∧ ByAt w'.heap.size w' A' c' [123, 50, 125, 13, 10, 97, 98] ∧ Below w.heap.size w w' := by
  have h := literal_any B A 2 [97, 98] (by decide) w henv hA
  rw [show literalL [97, 98] = [123, 50, 125, 13, 10, 97, 98] by unfold literalL headL; rw [show ([97, 98] : List UInt8).length = 2 from rfl, dec_2]; rfl] at h
  exact h

set_option maxRecDepth 100000 in
set_option maxHeartbeats 2000000 in
theorem alive4_any (w : World) (henv : Env w) :
    Calls Tryd.prog 9 #[] w fun e w' => e = .returned (.bool true) ∧ Below w.heap.size w w' := by
  have HE := Lib.hid (fun w1 (hB : Below w.heap.size w w1) => henv.below hB)
  have kc := fun (w : World) (C : Array Value) (n c : Nat) => Lib.run_convert_bytes_const (P := Tryd.prog) w 22 5 C n c Tryd.underlying22 Tryd.underlying5
  have B0 := Lib.hid (below_al w (.cells #[.int .u8 97, .int .u8 32, .int .u8 83, .int .u8 69, .int .u8 76, .int .u8 69, .int .u8 67, .int .u8 84, .int .u8 32, .int .u8 123, .int .u8 53, .int .u8 125] 5 (12, 13)))
  have C1 := Lib.hid (announced_ex _ _ _ (HE.out _ B0.out) (byAt_lit w [97, 32, 83, 69, 76, 69, 67, 84, 32, 123, 53, 125] _ rfl 5 (12, 13)))
  clear henv
  go_enter Tryd.func9, Tryd.ntmps9
  go_wp2_with fail
  refine C1.out.mono ?_
  rintro e w1 ⟨rfl, hb⟩
  have hB1 := Lib.hid (B0.out.trans (hb.mono B0.out.size))
  have C2 := Lib.hid (quoted_ex _ _ _ (byAt_lit w1 [97, 34, 98] _ rfl 5 (3, 4)))
  clear hb C1 B0
  go_wp2_with fail
  refine C2.out.mono ?_
  rintro e w2 ⟨rfl, hb⟩
  have hB2 := Lib.hid ((hB1.out.alloc hB1.out.size (.cells #[.int .u8 97, .int .u8 34, .int .u8 98] 5 (3, 4))).trans (hb.mono (hB1.out.alloc hB1.out.size (.cells #[.int .u8 97, .int .u8 34, .int .u8 98] 5 (3, 4))).size))
  have hB2a := Lib.hid (hB2.out.alloc hB2.out.size (.cells #[.int .u8 97, .int .u8 98] 5 (2, 3)))
  have C3 := Lib.hid (literal_ex _ _ _ (HE.out _ hB2a.out) (byAt_lit w2 [97, 98] _ rfl 5 (2, 3)))
  clear hb C2 hB1
  go_wp2_with fail
  refine C3.out.mono ?_
  rintro e w3 ⟨A', c', rfl, hA, hb⟩
  have hcv := convS _ w3 A' c' 7 _ hA rfl
  have hB3 := Lib.hid (hB2a.out.trans (hb.mono hB2a.out.size))
  clear hb C3 hA
  go_wp2_with fail
  go_ret
  exact ⟨rfl, hB3.out⟩
end Go.Proofs.YtnjmaofoalgagaaDoor
