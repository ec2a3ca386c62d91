/- The examples of chapter 3: the law's own 'alive'. -/
import Derived.Test.YtchlmmglibladaaDoorFlagParseL
import Derived.Test.YtchlmmglibladaaDoorRefParse3
import Derived.Test.YtchlmmglibladaaDoorRefList3
import Derived.Test.YtchlmmglibladaaDoorRefChange
namespace Go.Proofs.YtchlmmglibladaaDoor
open Go.RowKit

theorem parse_seen : parseF [40, 92, 115, 101, 101, 110, 41] = some 8 := by decide +kernel
theorem list_12 : listL 12 = [40, 92, 68, 101, 108, 101, 116, 101, 100, 32, 92, 83, 101, 101, 110, 41] := by decide +kernel
theorem fparse_seen (w : World) : Calls Tryd.prog 13 #[.string ⟨#[40, 92, 115, 101, 101, 110, 41]⟩] w fun e w' => e = .returned (.tuple #[.int .u8 8, .bool true]) ∧ Below w.heap.size w w' := by
  have h := fparse_any ⟨#[40, 92, 115, 101, 101, 110, 41]⟩ (by decide) w
  rw [show parseF (ByteArray.mk #[40, 92, 115, 101, 101, 110, 41]).data.toList = some 8 from parse_seen] at h
  exact h
theorem list_seen (w : World) : Calls Tryd.prog 15 #[.int .u8 12] w fun e w' => e = .returned (.string ⟨#[40, 92, 68, 101, 108, 101, 116, 101, 100, 32, 92, 83, 101, 101, 110, 41]⟩) ∧ Below w.heap.size w w' := by
  have h := list_any 12 (by decide) w
  rw [list_12] at h
  exact h

set_option maxRecDepth 100000 in
theorem alive3_any (w : World) :
    Calls Tryd.prog 11 #[] w fun e w' => e = .returned (.bool true) ∧ Below w.heap.size w w' := by
  have N1 := Lib.hid (fun w1 => fparse_seen w1)
  have N2 := Lib.hid (fun w1 => list_seen w1)
  go_enter Tryd.func11, Tryd.ntmps11
  go_wp2_with fail
  refine (N1.out _).mono ?_
  rintro e w1 ⟨rfl, hb⟩
  go_wp2_with fail
  refine (N2.out _).mono ?_
  rintro e w2 ⟨rfl, h⟩
  replace hb := below_next hb h
  clear h
  go_wp2_with fail
  go_ret
  exact ⟨rfl, hb⟩
end Go.Proofs.YtchlmmglibladaaDoor
