/- The three classes of the project: classOf, its closure, Atom, Tag, Text; and the reference's. -/
import Derived.Test.YtcdfocmmpmfnmaaDoorEnv
import Derived.Test.YtcdfocmmpmfnmaaDoorCharMath
import Derived.Laws.EntriesVeiled
namespace Go.Proofs.YtcdfocmmpmfnmaaDoor
open Go.RowKit

theorem ret_bool {a b : Bool} (h : a = b) : Ending.returned (.bool a) = .returned (.bool b) := by rw [h]

theorem classOf_any (a b c d : Int) (w : World) :
    Calls Tryd.prog 28 #[.agg #[.int .u64 a, .int .u64 b, .int .u64 c, .int .u64 d]] w fun e w' =>
      e = .returned (.agg #[.func (Fn.func 33) #[] #[.pointer (some ⟨w.heap.size, 0, none⟩)]]) ∧
      (w.alloc (.cells #[.int .u64 a, .int .u64 b, .int .u64 c, .int .u64 d] 38)).alloc (.cells #[.func (Fn.func 33) #[] #[.pointer (some ⟨w.heap.size, 0, none⟩)]] 34) = w' := by
  go_enter Tryd.func28, Tryd.ntmps28
  go_wp2
  exact bodyPost_ret (v := .agg #[.func (Fn.func 33) #[] #[.pointer (some ⟨w.heap.size, 0, none⟩)]]) (by simp [results, Tryd.results28, go_sem]) rfl ⟨rfl, rfl⟩

set_option maxRecDepth 100000 in
theorem has_any (n : Nat) (x : Int) (b : Nat) (w : World) (h1 : n ≤ 255) (hc : w.cell? ⟨b, n / 64, none⟩ = some (.int .u64 x)) :
    Calls Tryd.prog 33 #[.int .u8 n, .pointer (some ⟨b, 0, none⟩)] w fun e w' => e = .returned (.bool (bits BinOp.and IntKind.u64 (x / 2 ^ (n % 64)) 1 == 1)) ∧ w = w' := by
  go_enter Tryd.func33, Tryd.ntmps33
  go_wp2
  go_ret
  exact ⟨rfl, rfl⟩

/-- The four words of a class lie in the first of its two blocks. -/
theorem word_at (a b c d : Int) (v : Value) (t u : TypeId) (w : World) (n : Nat) (h1 : n ≤ 255) :
    ((w.alloc (.cells #[.int .u64 a, .int .u64 b, .int .u64 c, .int .u64 d] t)).alloc (.cells #[v] u)).cell? ⟨w.heap.size, n / 64, none⟩ = some (.int .u64 (if n / 64 = 0 then a else if n / 64 = 1 then b else if n / 64 = 2 then c else d)) := by
  have hn : n / 64 < 4 := by omega
  generalize n / 64 = k at hn
  rw [World.cell?_alloc_old _ _ _ (by simp)]
  rw [World.cell?_alloc_new]
  match k, hn with
  | 0, _ => rfl
  | 1, _ => rfl
  | 2, _ => rfl
  | 3, _ => rfl

theorem field_has (b : Nat) (w : World) : (Instr.field 34 (.agg #[.func (Fn.func 33) #[] #[.pointer (some ⟨b, 0, none⟩)]]) 0).run Tryd.prog w = .ok (.func (Fn.func 33) #[] #[.pointer (some ⟨b, 0, none⟩)]) w := by kernel_rfl

theorem below_two (w : World) (o1 o2 : Obj) : Below w.heap.size w ((w.alloc o1).alloc o2) := ((Below.refl _ _).alloc (Nat.le_refl _) _).alloc (by simp) _

set_option maxRecDepth 100000 in
theorem atom_any (n : Nat) (w : World) (h1 : n ≤ 255) :
    Calls Tryd.prog 10 #[.int .u8 n] w fun e w' => e = .returned (.bool (atomN n)) ∧ Below w.heap.size w w' := by
  have H0 := has_any n _ _ _ h1 (word_at 18446736213919399936 8646911283746045951 0 0 (.func (Fn.func 33) #[] #[.pointer (some ⟨w.heap.size, 0, none⟩)]) 38 34 w n h1)
  have hb : bitAt 18446736213919399936 8646911283746045951 0 0 n = atomN n := atom_bit ⟨n, by omega⟩
  unfold bitAt at hb
  rw [hb] at H0
  have H := Lib.hid H0
  clear H0 hb
  have hf := fun (b : Nat) W => field_has b W
  go_enter Tryd.func10, Tryd.ntmps10
  go_wp2_with (first | (go_at_call 28; refine (classOf_any _ _ _ _ _).mono ?_; rintro e w' ⟨rfl, rfl⟩) | (go_at_call 33; refine H.out.mono ?_; rintro e w' ⟨rfl, rfl⟩))
  go_ret
  exact ⟨rfl, below_two _ _ _⟩

set_option maxRecDepth 100000 in
theorem tag_any (n : Nat) (w : World) (h1 : n ≤ 255) :
    Calls Tryd.prog 12 #[.int .u8 n] w fun e w' => e = .returned (.bool (tagN n)) ∧ Below w.heap.size w w' := by
  have H0 := has_any n _ _ _ h1 (word_at 18446727417826377728 8646911284282916863 0 0 (.func (Fn.func 33) #[] #[.pointer (some ⟨w.heap.size, 0, none⟩)]) 38 34 w n h1)
  have hb : bitAt 18446727417826377728 8646911284282916863 0 0 n = tagN n := tag_bit ⟨n, by omega⟩
  unfold bitAt at hb
  rw [hb] at H0
  have H := Lib.hid H0
  clear H0 hb
  have hf := fun (b : Nat) W => field_has b W
  go_enter Tryd.func12, Tryd.ntmps12
  go_wp2_with (first | (go_at_call 28; refine (classOf_any _ _ _ _ _).mono ?_; rintro e w' ⟨rfl, rfl⟩) | (go_at_call 33; refine H.out.mono ?_; rintro e w' ⟨rfl, rfl⟩))
  go_ret
  exact ⟨rfl, below_two _ _ _⟩

set_option maxRecDepth 100000 in
theorem text_any (n : Nat) (w : World) (h1 : n ≤ 255) :
    Calls Tryd.prog 14 #[.int .u8 n] w fun e w' => e = .returned (.bool (textN n)) ∧ Below w.heap.size w w' := by
  have H0 := has_any n _ _ _ h1 (word_at 18446744073709542398 18446744073709551615 0 0 (.func (Fn.func 33) #[] #[.pointer (some ⟨w.heap.size, 0, none⟩)]) 38 34 w n h1)
  have hb : bitAt 18446744073709542398 18446744073709551615 0 0 n = textN n := text_bit ⟨n, by omega⟩
  unfold bitAt at hb
  rw [hb] at H0
  have H := Lib.hid H0
  clear H0 hb
  have hf := fun (b : Nat) W => field_has b W
  go_enter Tryd.func14, Tryd.ntmps14
  go_wp2_with (first | (go_at_call 28; refine (classOf_any _ _ _ _ _).mono ?_; rintro e w' ⟨rfl, rfl⟩) | (go_at_call 33; refine H.out.mono ?_; rintro e w' ⟨rfl, rfl⟩))
  go_ret
  exact ⟨rfl, below_two _ _ _⟩

set_option maxRecDepth 100000 in
theorem refAtom_any (n : Nat) (w : World) (h1 : n ≤ 255) :
    Calls Tryd.prog 11 #[.int .u8 n] w fun e w' => e = .returned (.bool (atomN n)) ∧ w = w' := by
  by_cases hs : n = 40 ∨ n = 41 ∨ n = 123 ∨ n = 37 ∨ n = 42 ∨ n = 34 ∨ n = 92 ∨ n = 93
  · have hr : false = atomN n := by unfold atomN; simp; omega
    have R := Lib.hid hr
    clear hr
    go_enter Tryd.func11, Tryd.ntmps11
    go_wp2
    all_goals first | (go_ret; exact ⟨ret_bool R.out, rfl⟩) | (exfalso; omega)
  · have h2 : ¬ n = 40 := by omega
    have h3 : ¬ n = 41 := by omega
    have h4 : ¬ n = 123 := by omega
    have h5 : ¬ n = 37 := by omega
    have h6 : ¬ n = 42 := by omega
    have h7 : ¬ n = 34 := by omega
    have h8 : ¬ n = 92 := by omega
    have h9 : ¬ n = 93 := by omega
    clear hs
    by_cases ha : 32 < n
    · have R := Lib.hid (show decide ((n : Int) < 127) = atomN n by unfold atomN; rw [decide_eq_decide]; omega)
      go_enter Tryd.func11, Tryd.ntmps11
      go_wp2
      go_ret
      exact ⟨ret_bool R.out, rfl⟩
    · have R := Lib.hid (show false = atomN n by unfold atomN; simp; omega)
      go_enter Tryd.func11, Tryd.ntmps11
      go_wp2
      go_ret
      exact ⟨ret_bool R.out, rfl⟩

theorem refAtom_is (n : Nat) (w : World) (h1 : n ≤ 255) (b : Bool) (hb : atomN n = b) :
    Calls Tryd.prog 11 #[.int .u8 n] w fun e w' => e = .returned (.bool b) ∧ w = w' := by subst hb; exact refAtom_any n w h1

set_option maxRecDepth 100000 in
theorem refTag_any (n : Nat) (w : World) (h1 : n ≤ 255) :
    Calls Tryd.prog 13 #[.int .u8 n] w fun e w' => e = .returned (.bool (tagN n)) ∧ w = w' := by
  by_cases h93 : n = 93
  · subst h93
    have A := Lib.hid (refAtom_is 93 w (by omega) false (by decide))
    go_enter Tryd.func13, Tryd.ntmps13
    go_wp2_with (go_at_call 11; refine A.out.mono ?_; rintro e w' ⟨rfl, rfl⟩)
    go_ret
    exact ⟨rfl, rfl⟩
  · by_cases h43 : n = 43
    · subst h43
      have A := Lib.hid (refAtom_is 43 w (by omega) true (by decide))
      go_enter Tryd.func13, Tryd.ntmps13
      go_wp2_with (go_at_call 11; refine A.out.mono ?_; rintro e w' ⟨rfl, rfl⟩)
      go_ret
      exact ⟨rfl, rfl⟩
    · cases ha : atomN n with
      | true =>
        have A := Lib.hid (refAtom_is n w h1 true ha)
        have R := Lib.hid (show true = tagN n by unfold atomN at ha; unfold tagN; simp at ha; simp; omega)
        clear ha
        go_enter Tryd.func13, Tryd.ntmps13
        go_wp2_with (go_at_call 11; refine A.out.mono ?_; rintro e w' ⟨rfl, rfl⟩)
        go_ret
        exact ⟨ret_bool R.out, rfl⟩
      | false =>
        have A := Lib.hid (refAtom_is n w h1 false ha)
        have R := Lib.hid (show false = tagN n by unfold atomN at ha; unfold tagN; simp at ha; simp; omega)
        clear ha
        go_enter Tryd.func13, Tryd.ntmps13
        go_wp2_with (go_at_call 11; refine A.out.mono ?_; rintro e w' ⟨rfl, rfl⟩)
        go_ret
        exact ⟨ret_bool (by rw [← R.out]; simp; omega), rfl⟩

set_option maxRecDepth 100000 in
theorem refText_any (n : Nat) (w : World) (h1 : n ≤ 255) :
    Calls Tryd.prog 15 #[.int .u8 n] w fun e w' => e = .returned (.bool (textN n)) ∧ w = w' := by
  by_cases h0 : 0 < n
  · by_cases h128 : n < 128
    · by_cases h10 : n = 10
      · subst h10
        go_enter Tryd.func15, Tryd.ntmps15
        go_wp2
        go_ret
        exact ⟨rfl, rfl⟩
      · by_cases h13 : n = 13
        · subst h13
          go_enter Tryd.func15, Tryd.ntmps15
          go_wp2
          go_ret
          exact ⟨rfl, rfl⟩
        · have R := Lib.hid (show true = textN n by unfold textN; simp; omega)
          go_enter Tryd.func15, Tryd.ntmps15
          go_wp2
          go_ret
          exact ⟨ret_bool (by rw [← R.out]; simp; omega), rfl⟩
    · have R := Lib.hid (show false = textN n by unfold textN; simp; omega)
      go_enter Tryd.func15, Tryd.ntmps15
      go_wp2
      go_ret
      exact ⟨ret_bool R.out, rfl⟩
  · obtain rfl : n = 0 := by omega
    go_enter Tryd.func15, Tryd.ntmps15
    go_wp2
    go_ret
    exact ⟨rfl, rfl⟩
end Go.Proofs.YtcdfocmmpmfnmaaDoor
