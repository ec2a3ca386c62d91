/- flag: names, Name. -/
import Derived.Test.YtchlmmglibladaaDoorMapS
import Derived.Test.YtchlmmglibladaaDoorFlagMath
import Derived.Maps.RangeWalk
namespace Go.Proofs.YtchlmmglibladaaDoor
open Go.RowKit Go.Maps

theorem keyF : Keyed Tryd.prog 22 := int_keyed Tryd.underlying22
theorem keyS : Keyed Tryd.prog 9 := string_keyed Tryd.underlying9
theorem zeroS (w : World) : (zeroValue 9).run Tryd.prog w = .ok (.string ⟨#[]⟩) w := by kernel_rfl
theorem zeroF (w : World) : (zeroValue 22).run Tryd.prog w = .ok (.int .u8 0) w := by kernel_rfl
theorem kF (x : Nat) (h : x ≤ 255) : keyOf Tryd.prog 22 (.int .u8 (x : Int)) = some (.int .u8 (x : Int)) :=
  keyOf_int_mk Tryd.underlying22 (by simp [Lit.wf, IntKind.min, IntKind.max, IntKind.signed, IntKind.bits]; omega)
theorem eS (l : List UInt8) (h : l.length ≤ 100) : plainElem (H := Unit) Tryd.prog 9 (.string ⟨l.toArray⟩) = some (strD l, []) :=
  plainElem_string Tryd.underlying9 (s := ⟨l.toArray⟩) (by unfold maxLen; show l.toArray.size ≤ _; simp; omega)

set_option maxRecDepth 100000 in
theorem names_any (w : World) :
    Calls Tryd.prog 20 #[] w fun e w' => e = .returned (.map (some w.heap.size)) ∧ w'.ownsMap Tryd.prog 22 (plainElem Tryd.prog 9) w.heap.size 5 nmD ∧ Below w.heap.size w w' := by
  have hmm := @run_makeMap Tryd.prog
  have hown := World.ownsMap_made (H := Unit) w Tryd.prog 22 (plainElem Tryd.prog 9)
  have hb : Below w.heap.size w (w.alloc (.map #[] 0)) := (Below.refl _ _).alloc (Nat.le_refl _) _
  have HO := Lib.hid hown
  clear hown
  go_enter Tryd.func20, Tryd.ntmps20
  go_wp2_with (first
    | (refine wpList_insert_own (H := Unit) _ rfl _ (.const (.int .u8 1)) _ 38 rfl 22 9 keyF Tryd.underlying38 (plainElem Tryd.prog 9) w.heap.size 0 _ rfl HO.out (by decide) (.int .u8 1) _ (.int .u8 1) rfl rfl (kF 1 (by decide)) _ [] (eS (nameF 1) (by decide)) ?_; intro w1 ho1 hg1; have HO1 := Lib.hid ho1; have hb1 := hb.grown hg1 (by simp) (fun j hj => by cases hj; exact Nat.le_refl _); clear ho1 hg1)
    | (refine wpList_insert_own (H := Unit) _ rfl _ (.const (.int .u8 2)) _ 38 rfl 22 9 keyF Tryd.underlying38 (plainElem Tryd.prog 9) w.heap.size 1 _ rfl HO1.out (by decide) (.int .u8 2) _ (.int .u8 2) rfl rfl (kF 2 (by decide)) _ [] (eS (nameF 2) (by decide)) ?_; intro w2 ho2 hg2; have HO2 := Lib.hid ho2; have hb2 := hb1.grown hg2 (by exact hb1.size) (fun j hj => by cases hj; exact Nat.le_refl _); clear ho2 hg2)
    | (refine wpList_insert_own (H := Unit) _ rfl _ (.const (.int .u8 4)) _ 38 rfl 22 9 keyF Tryd.underlying38 (plainElem Tryd.prog 9) w.heap.size 2 _ rfl HO2.out (by decide) (.int .u8 4) _ (.int .u8 4) rfl rfl (kF 4 (by decide)) _ [] (eS (nameF 4) (by decide)) ?_; intro w3 ho3 hg3; have HO3 := Lib.hid ho3; have hb3 := hb2.grown hg3 (by exact hb2.size) (fun j hj => by cases hj; exact Nat.le_refl _); clear ho3 hg3)
    | (refine wpList_insert_own (H := Unit) _ rfl _ (.const (.int .u8 8)) _ 38 rfl 22 9 keyF Tryd.underlying38 (plainElem Tryd.prog 9) w.heap.size 3 _ rfl HO3.out (by decide) (.int .u8 8) _ (.int .u8 8) rfl rfl (kF 8 (by decide)) _ [] (eS (nameF 8) (by decide)) ?_; intro w4 ho4 hg4; have HO4 := Lib.hid ho4; have hb4 := hb3.grown hg4 (by exact hb3.size) (fun j hj => by cases hj; exact Nat.le_refl _); clear ho4 hg4)
    | (refine wpList_insert_own (H := Unit) _ rfl _ (.const (.int .u8 16)) _ 38 rfl 22 9 keyF Tryd.underlying38 (plainElem Tryd.prog 9) w.heap.size 4 _ rfl HO4.out (by decide) (.int .u8 16) _ (.int .u8 16) rfl rfl (kF 16 (by decide)) _ [] (eS (nameF 16) (by decide)) ?_; intro w5 ho5 hg5; have HO5 := Lib.hid ho5; have hb5 := hb4.grown hg5 (by exact hb4.size) (fun j hj => by cases hj; exact Nat.le_refl _); clear ho5 hg5))
  go_ret
  exact ⟨rfl, HO5.out, hb5⟩
end Go.Proofs.YtchlmmglibladaaDoor
