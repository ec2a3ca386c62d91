/- The walks of the laws CharStrings and CharJoins. -/
import Derived.Test.YtcdfocmmpmfnmaaDoorAlive1
import Derived.Lib.SmallJoins
namespace Go.Proofs.YtcdfocmmpmfnmaaDoor
open Go.RowKit

theorem enters_Atom (args : Array Value) (w : World) : (callFunc 10 args).run Tryd.prog w = .ok (.enter 10 args) w := by kernel_rfl
theorem enters_Tag (args : Array Value) (w : World) : (callFunc 12 args).run Tryd.prog w = .ok (.enter 12 args) w := by kernel_rfl
theorem enters_Text (args : Array Value) (w : World) : (callFunc 14 args).run Tryd.prog w = .ok (.enter 14 args) w := by kernel_rfl
theorem enters_Any (args : Array Value) (w : World) : (callFunc 20 args).run Tryd.prog w = .ok (.enter 20 args) w := by kernel_rfl

theorem always_any (n : Nat) (w : World) (_h : n ≤ 255) :
    Calls Tryd.prog 20 #[.int .u8 n] w fun e w' => e = .returned (.bool true) ∧ Below w.heap.size w w' := by
  go_enter Tryd.func20, Tryd.ntmps20
  go_wp2
  go_ret
  exact ⟨rfl, Below.refl _ _⟩

theorem allL_true (l : List UInt8) : allL (fun _ => true) l = !l.isEmpty := by cases l <;> simp [allL]
theorem allL_append (g : Nat → Bool) (a b : List UInt8) (ha : a.isEmpty = false) (hb : b.isEmpty = false) : allL g (a ++ b) = (allL g a && allL g b) := by
  cases a <;> cases b <;> simp_all [allL, Bool.and_assoc]
theorem allAtom (s : ByteArray) (hs : s.size ≤ 1000000000) (w : World) :
    Calls Tryd.prog 16 #[.string s, .func (Fn.func 10) #[] #[]] w fun e w' => e = .returned (.bool (allL atomN s.data.toList)) ∧ Below w.heap.size w w' :=
  all_any _ _ (fun n w h => atom_any n w h) enters_Atom s hs w
theorem allTag (s : ByteArray) (hs : s.size ≤ 1000000000) (w : World) :
    Calls Tryd.prog 16 #[.string s, .func (Fn.func 12) #[] #[]] w fun e w' => e = .returned (.bool (allL tagN s.data.toList)) ∧ Below w.heap.size w w' :=
  all_any _ _ (fun n w h => tag_any n w h) enters_Tag s hs w
theorem allText (s : ByteArray) (hs : s.size ≤ 1000000000) (w : World) :
    Calls Tryd.prog 16 #[.string s, .func (Fn.func 14) #[] #[]] w fun e w' => e = .returned (.bool (allL textN s.data.toList)) ∧ Below w.heap.size w w' :=
  all_any _ _ (fun n w h => text_any n w h) enters_Text s hs w
theorem allAlways (s : ByteArray) (hs : s.size ≤ 1000000000) (w : World) :
    Calls Tryd.prog 16 #[.string s, .func (Fn.func 20) #[] #[]] w fun e w' => e = .returned (.bool (!s.toList.isEmpty)) ∧ Below w.heap.size w w' := by
  have h := all_any _ (fun _ => true) (fun n w h => always_any n w h) enters_Any s hs w
  rw [show allL (fun _ => true) s.data.toList = !s.toList.isEmpty by rw [btl]; exact allL_true _] at h
  exact h

set_option maxRecDepth 100000 in
set_option maxHeartbeats 1000000 in
theorem charStrings_any (s : ByteArray) (hs : s.size ≤ maxLen) (w : World) (henv : Env w) :
    Calls Tryd.prog 4 #[.string s] w fun e w' => e = .returned (.bool true) ∧ Below w.heap.size w w' := by
  have L := Lib.hid (alive1_any w henv)
  clear henv
  unfold maxLen at hs
  by_cases hl : s.size ≤ 1000
  · have A := Lib.hid (fun w1 => allAtom s (by omega) w1)
    have T := Lib.hid (fun w1 => allTag s (by omega) w1)
    have X := Lib.hid (fun w1 => allText s (by omega) w1)
    have Y := Lib.hid (fun w1 => allAlways s (by omega) w1)
    have rA := Lib.hid (fun w1 => isAtom_any s (by omega) w1)
    have rT := Lib.hid (fun w1 => isTag_any s (by omega) w1)
    have rX := Lib.hid (fun w1 => isText_any s (by omega) w1)
    generalize allL atomN s.data.toList = a at *
    generalize allL tagN s.data.toList = t at *
    generalize allL textN s.data.toList = x at *
    go_enter Tryd.func4, Tryd.ntmps4
    go_wp2_with fail
    refine L.out.mono ?_
    rintro e w1 ⟨rfl, hb⟩
    go_wp2_with fail
    refine (A.out _).mono ?_
    rintro e w2 ⟨rfl, h2⟩
    replace hb := below_next hb h2
    clear h2
    go_wp2_with fail
    refine (rA.out _).mono ?_
    rintro e w1 ⟨rfl, rfl⟩
    go_wp2_with fail
    refine (T.out _).mono ?_
    rintro e w1 ⟨rfl, h2⟩
    replace hb := below_next hb h2
    clear h2
    go_wp2_with fail
    refine (rT.out _).mono ?_
    rintro e w2 ⟨rfl, rfl⟩
    go_wp2_with fail
    refine (X.out _).mono ?_
    rintro e w2 ⟨rfl, h2⟩
    replace hb := below_next hb h2
    clear h2
    go_wp2_with fail
    refine (rX.out _).mono ?_
    rintro e w1 ⟨rfl, rfl⟩
    go_wp2_with fail
    refine (Y.out _).mono ?_
    rintro e w1 ⟨rfl, h2⟩
    replace hb := below_next hb h2
    clear h2
    go_wp2_with fail
    go_ret
    exact ⟨rfl, hb⟩
  · go_enter Tryd.func4, Tryd.ntmps4
    go_wp2_with fail
    refine L.out.mono ?_
    rintro e w1 ⟨rfl, hb⟩
    go_wp2_with fail
    go_ret
    exact ⟨rfl, hb⟩

set_option maxRecDepth 100000 in
set_option maxHeartbeats 2000000 in
theorem charJoins_any (a : ByteArray) (ha : a.size ≤ maxLen) (b : ByteArray) (hb : b.size ≤ maxLen) (w : World) (henv : Env w) :
    Calls Tryd.prog 8 #[.string a, .string b] w fun e w' => e = .returned (.bool true) ∧ Below w.heap.size w w' := by
  have L := Lib.hid (alive1_any w henv)
  clear henv
  unfold maxLen at ha hb
  by_cases hla : a.size ≤ 500
  · by_cases hlb : b.size ≤ 500
    · cases hea : a.toList.isEmpty with
      | true =>
        go_enter Tryd.func8, Tryd.ntmps8
        go_wp2_with fail
        refine L.out.mono ?_
        rintro e w1 ⟨rfl, hb⟩
        go_wp2_with fail
        go_ret
        exact ⟨rfl, hb⟩
      | false =>
        cases heb : b.toList.isEmpty with
        | true =>
          go_enter Tryd.func8, Tryd.ntmps8
          go_wp2_with fail
          refine L.out.mono ?_
          rintro e w1 ⟨rfl, hb⟩
          go_wp2_with fail
          go_ret
          exact ⟨rfl, hb⟩
        | false =>
          have hab : (a ++ b).size ≤ 1000000000 := by rw [ByteArray.size_append]; omega
          have A := Lib.hid (fun w1 => allAtom (a ++ b) hab w1)
          have X := Lib.hid (fun w1 => allText (a ++ b) hab w1)
          have Xa := Lib.hid (fun w1 => allText a (by omega) w1)
          have Xb := Lib.hid (fun w1 => allText b (by omega) w1)
          have rA := Lib.hid (fun w1 => isAtom_any a (by omega) w1)
          have rB := Lib.hid (fun w1 => isAtom_any b (by omega) w1)
          rw [Joins.data_append, allL_append _ _ _ (by rw [← btl]; exact hea) (by rw [← btl]; exact heb)] at A X
          generalize allL atomN a.data.toList = a1 at *
          generalize allL atomN b.data.toList = a2 at *
          generalize allL textN a.data.toList = x1 at *
          generalize allL textN b.data.toList = x2 at *
          cases a1 <;> cases x1
          · simp only [Bool.false_and] at A X
            go_enter Tryd.func8, Tryd.ntmps8
            go_wp2_with fail
            refine L.out.mono ?_
            rintro e w1 ⟨rfl, hb⟩
            go_wp2_with fail
            refine (A.out _).mono ?_
            rintro e w2 ⟨rfl, h2⟩
            replace hb := below_next hb h2
            clear h2
            go_wp2_with fail
            refine (rA.out _).mono ?_
            rintro e w1 ⟨rfl, rfl⟩
            go_wp2_with fail
            refine (X.out _).mono ?_
            rintro e w2 ⟨rfl, h2⟩
            replace hb := below_next hb h2
            clear h2
            go_wp2_with fail
            refine (Xa.out _).mono ?_
            rintro e w1 ⟨rfl, h2⟩
            replace hb := below_next hb h2
            clear h2
            go_wp2_with fail
            go_ret
            exact ⟨rfl, hb⟩
          · simp only [Bool.false_and, Bool.true_and] at A X
            go_enter Tryd.func8, Tryd.ntmps8
            go_wp2_with fail
            refine L.out.mono ?_
            rintro e w1 ⟨rfl, hb⟩
            go_wp2_with fail
            refine (A.out _).mono ?_
            rintro e w2 ⟨rfl, h2⟩
            replace hb := below_next hb h2
            clear h2
            go_wp2_with fail
            refine (rA.out _).mono ?_
            rintro e w1 ⟨rfl, rfl⟩
            go_wp2_with fail
            refine (X.out _).mono ?_
            rintro e w2 ⟨rfl, h2⟩
            replace hb := below_next hb h2
            clear h2
            go_wp2_with fail
            refine (Xa.out _).mono ?_
            rintro e w1 ⟨rfl, h2⟩
            replace hb := below_next hb h2
            clear h2
            go_wp2_with fail
            refine (Xb.out _).mono ?_
            rintro e w2 ⟨rfl, h2⟩
            replace hb := below_next hb h2
            clear h2
            go_wp2_with fail
            go_ret
            exact ⟨rfl, hb⟩
          · simp only [Bool.false_and, Bool.true_and] at A X
            go_enter Tryd.func8, Tryd.ntmps8
            go_wp2_with fail
            refine L.out.mono ?_
            rintro e w1 ⟨rfl, hb⟩
            go_wp2_with fail
            refine (A.out _).mono ?_
            rintro e w2 ⟨rfl, h2⟩
            replace hb := below_next hb h2
            clear h2
            go_wp2_with fail
            refine (rA.out _).mono ?_
            rintro e w1 ⟨rfl, rfl⟩
            go_wp2_with fail
            refine (rB.out _).mono ?_
            rintro e w2 ⟨rfl, rfl⟩
            go_wp2_with fail
            refine (X.out _).mono ?_
            rintro e w1 ⟨rfl, h2⟩
            replace hb := below_next hb h2
            clear h2
            go_wp2_with fail
            refine (Xa.out _).mono ?_
            rintro e w2 ⟨rfl, h2⟩
            replace hb := below_next hb h2
            clear h2
            go_wp2_with fail
            go_ret
            exact ⟨rfl, hb⟩
          · simp only [Bool.true_and] at A X
            go_enter Tryd.func8, Tryd.ntmps8
            go_wp2_with fail
            refine L.out.mono ?_
            rintro e w1 ⟨rfl, hb⟩
            go_wp2_with fail
            refine (A.out _).mono ?_
            rintro e w2 ⟨rfl, h2⟩
            replace hb := below_next hb h2
            clear h2
            go_wp2_with fail
            refine (rA.out _).mono ?_
            rintro e w1 ⟨rfl, rfl⟩
            go_wp2_with fail
            refine (rB.out _).mono ?_
            rintro e w2 ⟨rfl, rfl⟩
            go_wp2_with fail
            refine (X.out _).mono ?_
            rintro e w1 ⟨rfl, h2⟩
            replace hb := below_next hb h2
            clear h2
            go_wp2_with fail
            refine (Xa.out _).mono ?_
            rintro e w2 ⟨rfl, h2⟩
            replace hb := below_next hb h2
            clear h2
            go_wp2_with fail
            refine (Xb.out _).mono ?_
            rintro e w1 ⟨rfl, h2⟩
            replace hb := below_next hb h2
            clear h2
            go_wp2_with fail
            go_ret
            exact ⟨rfl, hb⟩
    · go_enter Tryd.func8, Tryd.ntmps8
      go_wp2_with fail
      refine L.out.mono ?_
      rintro e w1 ⟨rfl, hb⟩
      go_wp2_with fail
      go_ret
      exact ⟨rfl, hb⟩
  · go_enter Tryd.func8, Tryd.ntmps8
    go_wp2_with fail
    refine L.out.mono ?_
    rintro e w1 ⟨rfl, hb⟩
    go_wp2_with fail
    go_ret
    exact ⟨rfl, hb⟩
end Go.Proofs.YtcdfocmmpmfnmaaDoor
