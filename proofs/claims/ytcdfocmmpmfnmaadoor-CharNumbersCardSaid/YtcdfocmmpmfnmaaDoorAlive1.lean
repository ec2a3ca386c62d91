/- The examples of chapter 1: the law's own 'alive'. -/
import Derived.Test.YtcdfocmmpmfnmaaDoorNum
import Derived.Test.YtcdfocmmpmfnmaaDoorCharUp
import Derived.Lib.QuietBelow
import Derived.BigQuiet
namespace Go.Proofs.YtcdfocmmpmfnmaaDoor
open Go.RowKit Go.Sort

/-- A contract that ends in 'Below', met inside a region that draws its order. -/
theorem qb {F : FuncId} {args : Array Value} {w : World} {v : Value} (h : ∀ w1, Below w.heap.size w w1 → Calls Tryd.prog F args w1 fun e w' => e = .returned v ∧ Below w1.heap.size w1 w') (d : Nat) (os : Array Obj) :
    Calls Tryd.prog F args (grow (redrawn w d) os) fun e w'' => e = .returned v ∧ ∃ p : Regrown, w'' = grow (redrawn w p.d) p.os := Calls.regrown_of (h _ (below_regrown _ _ _))
/-- The like of a contract that leaves the world as it was. -/
theorem qs {F : FuncId} {args : Array Value} {w : World} {v : Value} (h : ∀ w1, Below w.heap.size w w1 → Calls Tryd.prog F args w1 fun e w' => e = .returned v ∧ w1 = w') (d : Nat) (os : Array Obj) :
    Calls Tryd.prog F args (grow (redrawn w d) os) fun e w'' => e = .returned v ∧ ∃ p : Regrown, w'' = grow (redrawn w p.d) p.os :=
  qb (fun w1 hb => (h w1 hb).mono fun _ _ ⟨he, hw⟩ => ⟨he, by subst hw; exact Below.refl _ _⟩) d os

theorem num_00 : numOf [48, 48] = none := by simp [numOf, Lib.parseUintB, Lib.parseUintM, Lib.decDigits]
theorem num_407 : numOf [52, 48, 55] = some 407 := by simp [numOf, Lib.parseUintB, Lib.parseUintM, Lib.decDigits]

theorem number_00 (w : World) (henv : Env w) :
    Calls Tryd.prog 24 #[.string ⟨#[48, 48]⟩] w fun e w' => e = .returned (.tuple #[.int .u32 0, .bool false]) ∧ Below w.heap.size w w' := by
  have h := number_any ⟨#[48, 48]⟩ (by decide) w henv
  rw [show numOf (ByteArray.mk #[48, 48]).data.toList = none from num_00] at h
  exact h
theorem number_407 (w : World) (henv : Env w) :
    Calls Tryd.prog 24 #[.string ⟨#[52, 48, 55]⟩] w fun e w' => e = .returned (.tuple #[.int .u32 407, .bool true]) ∧ Below w.heap.size w w' := by
  have h := number_any ⟨#[52, 48, 55]⟩ (by decide) w henv
  rw [show numOf (ByteArray.mk #[52, 48, 55]).data.toList = some 407 from num_407] at h
  exact h
theorem upper_a1e (w : World) :
    Calls Tryd.prog 21 #[.string ⟨#[97, 49, 195, 169]⟩] w fun e w' => e = .returned (.string ⟨#[65, 49, 195, 169]⟩) ∧ Below w.heap.size w w' := by
  have h := upper_any ⟨#[97, 49, 195, 169]⟩ (by decide) w
  rw [show (upL (ByteArray.mk #[97, 49, 195, 169]).data.toList).toArray = #[65, 49, 195, 169] from by decide] at h
  exact h
theorem tag_is (n : Nat) (h1 : n ≤ 255) (b : Bool) (hb : tagN n = b) (w : World) :
    Calls Tryd.prog 12 #[.int .u8 n] w fun e w' => e = .returned (.bool b) ∧ Below w.heap.size w w' := by subst hb; exact tag_any n w h1
theorem atom_is (n : Nat) (h1 : n ≤ 255) (b : Bool) (hb : atomN n = b) (w : World) :
    Calls Tryd.prog 10 #[.int .u8 n] w fun e w' => e = .returned (.bool b) ∧ Below w.heap.size w w' := by subst hb; exact atom_any n w h1

theorem tag_93 (w : World) : Calls Tryd.prog 12 #[.int .u8 93] w fun e w' => e = .returned (.bool true) ∧ Below w.heap.size w w' := tag_is 93 (by decide) true (by decide) w
theorem tag_43 (w : World) : Calls Tryd.prog 12 #[.int .u8 43] w fun e w' => e = .returned (.bool false) ∧ Below w.heap.size w w' := tag_is 43 (by decide) false (by decide) w
theorem atom_43 (w : World) : Calls Tryd.prog 10 #[.int .u8 43] w fun e w' => e = .returned (.bool true) ∧ Below w.heap.size w w' := atom_is 43 (by decide) true (by decide) w
theorem atom_93 (w : World) : Calls Tryd.prog 10 #[.int .u8 93] w fun e w' => e = .returned (.bool false) ∧ Below w.heap.size w w' := atom_is 93 (by decide) false (by decide) w

set_option maxRecDepth 100000 in
set_option maxHeartbeats 1000000 in
theorem alive1_any (w : World) (henv : Env w) :
    Calls Tryd.prog 9 #[] w fun e w' => e = .returned (.bool true) ∧ Below w.heap.size w w' := by
  have N1 := Lib.hid (number_00 w henv)
  have N2 := fun w1 (hb : Below w.heap.size w w1) => Lib.hid (number_407 w1 (henv.below hb))
  clear henv
  go_enter Tryd.func9, Tryd.ntmps9
  go_wp2_with fail
  refine N1.out.mono ?_
  rintro e w1 ⟨rfl, hb1⟩
  go_wp2_with fail
  refine (N2 _ hb1).out.mono ?_
  rintro e w2 ⟨rfl, hb2⟩
  have hb := below_next hb1 hb2
  clear N1 N2 hb1 hb2
  go_wp2_with fail
  refine (tag_93 _).mono ?_
  rintro e w1 ⟨rfl, h1⟩
  replace hb := below_next hb h1
  clear h1
  go_wp2_with fail
  refine (tag_43 _).mono ?_
  rintro e w2 ⟨rfl, h1⟩
  replace hb := below_next hb h1
  clear h1
  go_wp2_with fail
  refine (atom_43 _).mono ?_
  rintro e w1 ⟨rfl, h1⟩
  replace hb := below_next hb h1
  clear h1
  go_wp2_with fail
  refine (atom_93 _).mono ?_
  rintro e w2 ⟨rfl, h1⟩
  replace hb := below_next hb h1
  clear h1
  go_wp2_with fail
  refine (upper_a1e _).mono ?_
  rintro e w1 ⟨rfl, h1⟩
  replace hb := below_next hb h1
  clear h1
  go_wp2_with fail
  go_ret
  exact ⟨rfl, hb⟩
end Go.Proofs.YtcdfocmmpmfnmaaDoor
