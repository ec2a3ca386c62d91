/- resp: forms, and what the map of forms holds. -/
import Derived.Test.YtpoejnajnaolpaaGreatDoorGb
import Derived.Test.YtpoejnajnaolpaaGreatDoorGa
import Derived.Laws.EntriesVeiled
import Derived.Test.YtpoejnajnaolpaaGreatDoorGe
import Derived.Test.YtpoejnajnaolpaaGreatDoorGf
import Derived.Test.YtpoejnajnaolpaaGreatDoorGg
namespace Go.Proofs.YtpoejnajnaolpaaGreatDoor
open Go.RowKit Go.Maps

/-- How a form reads: by the numbers of its three functions, and by the block that the third holds. -/
def frmElem : Value → Option (DataW Unit × List MemPlace)
  | .agg a => match a.toList with
    | [.func (.func n1) x1 y1, .func (.func n2) x2 y2, .func (.func n3) x3 y3] =>
      if x1.size = 0 ∧ y1.size = 0 ∧ x2.size = 0 ∧ y2.size = 0 ∧ x3.size = 0 then
        match y3.toList with
        | [] => some (.agg [.lit (.int .i64 (n1 : Nat)), .lit (.int .i64 (n2 : Nat)), .lit (.int .i64 (n3 : Nat)), .lit (.int .i64 (-1))], [])
        | [.pointer (some ⟨b, 0, none⟩)] => some (.agg [.lit (.int .i64 (n1 : Nat)), .lit (.int .i64 (n2 : Nat)), .lit (.int .i64 (n3 : Nat)), .lit (.int .i64 (b : Nat))], [])
        | _ => none
      else none
    | [.nilFunc, .nilFunc, .nilFunc] => some (.nil, [])
    | _ => none
  | _ => none
def frD (n1 n2 n3 : Nat) (o : Option Nat) : DataW Unit := .agg [.lit (.int .i64 (n1 : Nat)), .lit (.int .i64 (n2 : Nat)), .lit (.int .i64 (n3 : Nat)), .lit (.int .i64 (match o with | none => -1 | some b => (b : Nat)))]
def frV (n1 n2 n3 : Nat) (o : Option Nat) : Value := .agg #[.func (.func n1) #[] #[], .func (.func n2) #[] #[], .func (.func n3) #[] (match o with | none => #[] | some b => #[.pointer (some ⟨b, 0, none⟩)])]
theorem frmElem_of (n1 n2 n3 : Nat) (o : Option Nat) : frmElem (frV n1 n2 n3 o) = some (frD n1 n2 n3 o, []) := by cases o <;> rfl
theorem frmElem_inv {v : Value} {n1 n2 n3 : Nat} {o : Option Nat} {ps : List MemPlace} (h : frmElem v = some (frD n1 n2 n3 o, ps)) : v = frV n1 n2 n3 o := by
  unfold frmElem at h
  split at h
  · rename_i a
    split at h
    · rename_i m1 x1 y1 m2 x2 y2 m3 x3 y3 he
      split at h
      · rename_i hs
        obtain ⟨h1, h2, h3, h4, h5⟩ := hs
        obtain rfl : x1 = #[] := Array.eq_empty_of_size_eq_zero h1
        obtain rfl : y1 = #[] := Array.eq_empty_of_size_eq_zero h2
        obtain rfl : x2 = #[] := Array.eq_empty_of_size_eq_zero h3
        obtain rfl : y2 = #[] := Array.eq_empty_of_size_eq_zero h4
        obtain rfl : x3 = #[] := Array.eq_empty_of_size_eq_zero h5
        split at h
        · rename_i hy
          obtain rfl : y3 = #[] := Array.toList_inj.1 hy
          unfold frD at h
          simp only [Option.some.injEq, Prod.mk.injEq, DataW.agg.injEq, List.cons.injEq, DataW.lit.injEq, Lit.int.injEq, true_and, and_true] at h
          obtain ⟨⟨e1, e2, e3, e4⟩, -⟩ := h
          obtain rfl := Int.ofNat.inj e1
          obtain rfl := Int.ofNat.inj e2
          obtain rfl := Int.ofNat.inj e3
          cases o with
          | none => exact congrArg Value.agg (Array.toList_inj.1 he)
          | some b => simp at e4
        · rename_i b hy
          obtain rfl : y3 = #[.pointer (some ⟨b, 0, none⟩)] := Array.toList_inj.1 hy
          unfold frD at h
          simp only [Option.some.injEq, Prod.mk.injEq, DataW.agg.injEq, List.cons.injEq, DataW.lit.injEq, Lit.int.injEq, true_and, and_true] at h
          obtain ⟨⟨e1, e2, e3, e4⟩, -⟩ := h
          obtain rfl := Int.ofNat.inj e1
          obtain rfl := Int.ofNat.inj e2
          obtain rfl := Int.ofNat.inj e3
          cases o with
          | none => simp at e4
          | some b' =>
            obtain rfl : b = b' := Int.ofNat.inj e4
            exact congrArg Value.agg (Array.toList_inj.1 he)
        · cases h
      · cases h
    · unfold frD at h; simp at h
    · cases h
  · cases h

/-- Boxes of strings behind block m. -/
def WBs (m : Nat) (W : World) (l : List (Nat × List UInt8)) : Prop := ∀ p ∈ l, m < p.1 ∧ W.heap[p.1]? = some (.cells #[.string ⟨p.2.toArray⟩] 9 (0, 0))
theorem WBs.below {m : Nat} {W W' : World} {l : List (Nat × List UInt8)} (h : WBs m W l) (hb : Below W.heap.size W W') : WBs m W' l := fun p hp => ⟨(h p hp).1, (hb.block p.1 (Array.getElem?_eq_some_iff.1 (h p hp).2).1).trans (h p hp).2⟩
theorem WBs.grown {m : Nat} {W W' : World} {l : List (Nat × List UInt8)} (h : WBs m W l) (hg : W.grownBy W' (some m)) : WBs m W' l := fun p hp => ⟨(h p hp).1, (hg.block p.1 (Array.getElem?_eq_some_iff.1 (h p hp).2).1 (fun e => by have := (h p hp).1; have := Option.some.inj e; omega)).trans (h p hp).2⟩
theorem WBs.snoc {m : Nat} {W : World} {l : List (Nat × List UInt8)} {b : Nat} {s : List UInt8} (h : WBs m W l) (hm : m < b) (hb : W.heap[b]? = some (.cells #[.string ⟨s.toArray⟩] 9 (0, 0))) : WBs m W (l ++ [(b, s)]) := fun p hp => by
  rcases List.mem_append.1 hp with hp | hp
  · exact h p hp
  · obtain rfl := List.mem_singleton.1 hp
    exact ⟨hm, hb⟩

/-- What countForm and textForm return: a form whose last function holds a new box with the word. -/
def FmPost (n1 n2 n3 : Nat) (s : List UInt8) (w : World) (e : Ending) (w' : World) : Prop := ∃ b, w.heap.size ≤ b ∧ e = .returned (.agg #[.func (Fn.func n1) #[] #[], .func (Fn.func n2) #[] #[], .func (Fn.func n3) #[] #[.pointer (some ⟨b, 0, none⟩)]]) ∧ w'.heap[b]? = some (.cells #[.string ⟨s.toArray⟩] 9 (0, 0)) ∧ Below w.heap.size w w'
set_option maxRecDepth 100000 in
theorem countForm_any (s : List UInt8) (w : World) : Calls Tryz.prog 68 #[.string ⟨s.toArray⟩] w (FmPost 86 87 88 s w) := by
  generalize hs : ByteArray.mk s.toArray = p at *
  go_enter Tryz.func68, Tryz.ntmps68
  go_wp2_with fail
  refine bodyPost_ret (v := .agg #[.func (Fn.func 86) #[] #[], .func (Fn.func 87) #[] #[], .func (Fn.func 88) #[] #[.pointer (some ⟨w.heap.size, 0, none⟩)]]) (by simp [results, Tryz.results68, go_sem]) rfl ?_
  refine ⟨w.heap.size, Nat.le_refl _, rfl, ?_, below_2box _ _ _⟩
  rw [hs]
  exact ((below_al (w.alloc _) _).block w.heap.size (by simp)).trans (heap_alloc_new w _)
set_option maxRecDepth 100000 in
theorem textForm_any (s : List UInt8) (w : World) : Calls Tryz.prog 73 #[.string ⟨s.toArray⟩] w (FmPost 95 96 98 s w) := by
  generalize hs : ByteArray.mk s.toArray = p at *
  go_enter Tryz.func73, Tryz.ntmps73
  go_wp2_with fail
  refine bodyPost_ret (v := .agg #[.func (Fn.func 95) #[] #[], .func (Fn.func 96) #[] #[], .func (Fn.func 98) #[] #[.pointer (some ⟨w.heap.size, 0, none⟩)]]) (by simp [results, Tryz.results73, go_sem]) rfl ?_
  refine ⟨w.heap.size, Nat.le_refl _, rfl, ?_, below_2box _ _ _⟩
  rw [hs]
  exact ((below_al (w.alloc _) _).block w.heap.size (by simp)).trans (heap_alloc_new w _)
set_option maxRecDepth 100000 in
theorem flagForm_any (w : World) : Calls Tryz.prog 72 #[] w fun e w' => e = .returned (.agg #[.func (Fn.func 93) #[] #[], .func (Fn.func 87) #[] #[], .func (Fn.func 94) #[] #[]]) ∧ Below w.heap.size w w' := by
  go_enter Tryz.func72, Tryz.ntmps72
  go_wp2_with fail
  refine bodyPost_ret (v := .agg #[.func (Fn.func 93) #[] #[], .func (Fn.func 87) #[] #[], .func (Fn.func 94) #[] #[]]) (by simp [results, Tryz.results72, go_sem]) rfl ⟨rfl, below_al _ _⟩

theorem keyI9 : Keyed Tryz.prog 3 := int_keyed Tryz.underlying3
theorem kI9 (x : Int) (h1 : -9223372036854775808 ≤ x) (h2 : x ≤ 9223372036854775807) : keyOf Tryz.prog 3 (.int .i64 x) = some (.int .i64 x) :=
  keyOf_int_mk Tryz.underlying3 (by simp [Lit.wf, IntKind.min, IntKind.max, IntKind.signed, IntKind.bits]; omega)
theorem zeroFm (w : World) : (zeroValue 62).run Tryz.prog w = .ok (.agg #[.nilFunc, .nilFunc, .nilFunc]) w := by kernel_rfl
/-- The map of forms. -/
def rsD (b1 b2 b3 b6 b7 b8 b10 : Nat) : DataW Unit := ((((((((((DataW.map []).put (.int .i64 1) (frD 86 87 88 (some b1))).put (.int .i64 2) (frD 86 87 88 (some b2))).put (.int .i64 3) (frD 86 87 88 (some b3))).put (.int .i64 4) (frD 69 70 71 none)).put (.int .i64 5) (frD 93 87 94 none)).put (.int .i64 6) (frD 95 96 98 (some b6))).put (.int .i64 7) (frD 95 96 98 (some b7))).put (.int .i64 8) (frD 95 96 98 (some b8))).put (.int .i64 9) (frD 74 75 76 none)).put (.int .i64 10) (frD 95 96 98 (some b10))
/-- What forms returns. -/
def FormsPost (w : World) (e : Ending) (w' : World) : Prop := ∃ b1 b2 b3 b6 b7 b8 b10, e = .returned (.map (some w.heap.size)) ∧ w'.ownsMap Tryz.prog 3 frmElem w.heap.size 10 (rsD b1 b2 b3 b6 b7 b8 b10) ∧ WBs w.heap.size w' [(b1, [69, 88, 73, 83, 84, 83]), (b2, [82, 69, 67, 69, 78, 84]), (b3, [69, 88, 80, 85, 78, 71, 69]), (b6, [42, 32, 79, 75, 32]), (b7, [42, 32, 66, 89, 69, 32]), (b8, [42, 32, 66, 65, 68, 32]), (b10, [43, 32])] ∧ Below w.heap.size w w'

set_option maxRecDepth 100000 in
set_option maxHeartbeats 4000000 in
theorem forms_any (w : World) : Calls Tryz.prog 50 #[] w (FormsPost w) := by
  have hmm := @run_makeMap Tryz.prog
  have HO0 := Lib.hid (World.ownsMap_made (H := Unit) w Tryz.prog 3 frmElem)
  have HB0 := Lib.hid (below_al w (.map #[] 0))
  have HS0 : Hid (WBs w.heap.size (w.alloc (.map #[] 0)) []) := Lib.hid (fun p hp => by cases hp)
  have HZ0 : Hid (w.heap.size < (w.alloc (.map #[] 0)).heap.size) := Lib.hid (by rw [World.size_alloc]; omega)
  have CF := Lib.hid (fun s W => countForm_any s W)
  have TF := Lib.hid (fun s W => textForm_any s W)
  have LF := Lib.hid (fun W => flagForm_any W)
  go_enter Tryz.func50, Tryz.ntmps50
  go_wp2_with fail
  refine (CF.out [69, 88, 73, 83, 84, 83] _).mono ?_
  rintro e c1 ⟨b1, hle, rfl, hbx, hb⟩
  have HOc1 := Lib.hid (map_below HO0.out hb)
  have HBc1 := Lib.hid (below_next HB0.out hb)
  have HZc1 := Lib.hid (Nat.lt_of_lt_of_le HZ0.out hb.size)
  have HSc1 := Lib.hid ((HS0.out.below hb).snoc (by have := HZ0.out; omega) hbx)
  clear hle hbx hb HO0 HB0 HS0 HZ0
  go_wp2_with (refine wpList_insert_own (H := Unit) _ rfl _ (.const (.int .i64 1)) _ 78 rfl 3 62 keyI9 Tryz.underlying78 frmElem w.heap.size 0 _ rfl HOc1.out (by decide) (.int .i64 1) (.agg #[.func (Fn.func 86) #[] #[], .func (Fn.func 87) #[] #[], .func (Fn.func 88) #[] #[.pointer (some ⟨b1, 0, none⟩)]]) (.int .i64 1) rfl rfl (kI9 1 (by decide) (by decide)) (frD 86 87 88 (some b1)) [] (frmElem_of 86 87 88 (some b1)) ?_; intro w1 ho hg; have HO1 := Lib.hid ho; have HB1 := Lib.hid (HBc1.out.grown hg HBc1.out.size (fun j hj => by cases hj; exact Nat.le_refl _)); have HS1 := Lib.hid (HSc1.out.grown hg); have HZ1 := Lib.hid (Nat.lt_of_lt_of_le HZc1.out hg.size); clear ho hg HOc1 HBc1 HSc1 HZc1)
  go_wp2_with fail
  refine (CF.out [82, 69, 67, 69, 78, 84] _).mono ?_
  rintro e c2 ⟨b2, hle, rfl, hbx, hb⟩
  have HOc2 := Lib.hid (map_below HO1.out hb)
  have HBc2 := Lib.hid (below_next HB1.out hb)
  have HZc2 := Lib.hid (Nat.lt_of_lt_of_le HZ1.out hb.size)
  have HSc2 := Lib.hid ((HS1.out.below hb).snoc (by have := HZ1.out; omega) hbx)
  clear hle hbx hb HO1 HB1 HS1 HZ1
  go_wp2_with (refine wpList_insert_own (H := Unit) _ rfl _ (.const (.int .i64 2)) _ 78 rfl 3 62 keyI9 Tryz.underlying78 frmElem w.heap.size 1 _ rfl HOc2.out (by decide) (.int .i64 2) (.agg #[.func (Fn.func 86) #[] #[], .func (Fn.func 87) #[] #[], .func (Fn.func 88) #[] #[.pointer (some ⟨b2, 0, none⟩)]]) (.int .i64 2) rfl rfl (kI9 2 (by decide) (by decide)) (frD 86 87 88 (some b2)) [] (frmElem_of 86 87 88 (some b2)) ?_; intro w2 ho hg; have HO2 := Lib.hid ho; have HB2 := Lib.hid (HBc2.out.grown hg HBc2.out.size (fun j hj => by cases hj; exact Nat.le_refl _)); have HS2 := Lib.hid (HSc2.out.grown hg); have HZ2 := Lib.hid (Nat.lt_of_lt_of_le HZc2.out hg.size); clear ho hg HOc2 HBc2 HSc2 HZc2)
  go_wp2_with fail
  refine (CF.out [69, 88, 80, 85, 78, 71, 69] _).mono ?_
  rintro e c3 ⟨b3, hle, rfl, hbx, hb⟩
  have HOc3 := Lib.hid (map_below HO2.out hb)
  have HBc3 := Lib.hid (below_next HB2.out hb)
  have HZc3 := Lib.hid (Nat.lt_of_lt_of_le HZ2.out hb.size)
  have HSc3 := Lib.hid ((HS2.out.below hb).snoc (by have := HZ2.out; omega) hbx)
  clear hle hbx hb HO2 HB2 HS2 HZ2
  go_wp2_with (first
    | (refine wpList_insert_own (H := Unit) _ rfl _ (.const (.int .i64 3)) _ 78 rfl 3 62 keyI9 Tryz.underlying78 frmElem w.heap.size 2 _ rfl HOc3.out (by decide) (.int .i64 3) (.agg #[.func (Fn.func 86) #[] #[], .func (Fn.func 87) #[] #[], .func (Fn.func 88) #[] #[.pointer (some ⟨b3, 0, none⟩)]]) (.int .i64 3) rfl rfl (kI9 3 (by decide) (by decide)) (frD 86 87 88 (some b3)) [] (frmElem_of 86 87 88 (some b3)) ?_; intro w3 ho hg; have HO3 := Lib.hid ho; have HB3 := Lib.hid (HBc3.out.grown hg HBc3.out.size (fun j hj => by cases hj; exact Nat.le_refl _)); have HS3 := Lib.hid (HSc3.out.grown hg); have HZ3 := Lib.hid (Nat.lt_of_lt_of_le HZc3.out hg.size); clear ho hg HOc3 HBc3 HSc3 HZc3)
    | (refine wpList_insert_own (H := Unit) _ rfl _ (.const (.int .i64 4)) _ 78 rfl 3 62 keyI9 Tryz.underlying78 frmElem w.heap.size 3 _ rfl HO3.out (by decide) (.int .i64 4) (.agg #[.func (Fn.func 69) #[] #[], .func (Fn.func 70) #[] #[], .func (Fn.func 71) #[] #[]]) (.int .i64 4) rfl rfl (kI9 4 (by decide) (by decide)) (frD 69 70 71 none) [] (frmElem_of 69 70 71 none) ?_; intro w4 ho hg; have HO4 := Lib.hid ho; have HB4 := Lib.hid (HB3.out.grown hg HB3.out.size (fun j hj => by cases hj; exact Nat.le_refl _)); have HS4 := Lib.hid (HS3.out.grown hg); have HZ4 := Lib.hid (Nat.lt_of_lt_of_le HZ3.out hg.size); clear ho hg HO3 HB3 HS3 HZ3))
  go_wp2_with fail
  refine (LF.out _).mono ?_
  rintro e c5 ⟨rfl, hb⟩
  have HOc5 := Lib.hid (map_below HO4.out hb)
  have HBc5 := Lib.hid (below_next HB4.out hb)
  have HZc5 := Lib.hid (Nat.lt_of_lt_of_le HZ4.out hb.size)
  have HSc5 := Lib.hid (HS4.out.below hb)
  clear hb HO4 HB4 HS4 HZ4
  go_wp2_with (refine wpList_insert_own (H := Unit) _ rfl _ (.const (.int .i64 5)) _ 78 rfl 3 62 keyI9 Tryz.underlying78 frmElem w.heap.size 4 _ rfl HOc5.out (by decide) (.int .i64 5) (.agg #[.func (Fn.func 93) #[] #[], .func (Fn.func 87) #[] #[], .func (Fn.func 94) #[] #[]]) (.int .i64 5) rfl rfl (kI9 5 (by decide) (by decide)) (frD 93 87 94 none) [] (frmElem_of 93 87 94 none) ?_; intro w5 ho hg; have HO5 := Lib.hid ho; have HB5 := Lib.hid (HBc5.out.grown hg HBc5.out.size (fun j hj => by cases hj; exact Nat.le_refl _)); have HS5 := Lib.hid (HSc5.out.grown hg); have HZ5 := Lib.hid (Nat.lt_of_lt_of_le HZc5.out hg.size); clear ho hg HOc5 HBc5 HSc5 HZc5)
  go_wp2_with fail
  refine (TF.out [42, 32, 79, 75, 32] _).mono ?_
  rintro e c6 ⟨b6, hle, rfl, hbx, hb⟩
  have HOc6 := Lib.hid (map_below HO5.out hb)
  have HBc6 := Lib.hid (below_next HB5.out hb)
  have HZc6 := Lib.hid (Nat.lt_of_lt_of_le HZ5.out hb.size)
  have HSc6 := Lib.hid ((HS5.out.below hb).snoc (by have := HZ5.out; omega) hbx)
  clear hle hbx hb HO5 HB5 HS5 HZ5
  go_wp2_with (refine wpList_insert_own (H := Unit) _ rfl _ (.const (.int .i64 6)) _ 78 rfl 3 62 keyI9 Tryz.underlying78 frmElem w.heap.size 5 _ rfl HOc6.out (by decide) (.int .i64 6) (.agg #[.func (Fn.func 95) #[] #[], .func (Fn.func 96) #[] #[], .func (Fn.func 98) #[] #[.pointer (some ⟨b6, 0, none⟩)]]) (.int .i64 6) rfl rfl (kI9 6 (by decide) (by decide)) (frD 95 96 98 (some b6)) [] (frmElem_of 95 96 98 (some b6)) ?_; intro w6 ho hg; have HO6 := Lib.hid ho; have HB6 := Lib.hid (HBc6.out.grown hg HBc6.out.size (fun j hj => by cases hj; exact Nat.le_refl _)); have HS6 := Lib.hid (HSc6.out.grown hg); have HZ6 := Lib.hid (Nat.lt_of_lt_of_le HZc6.out hg.size); clear ho hg HOc6 HBc6 HSc6 HZc6)
  go_wp2_with fail
  refine (TF.out [42, 32, 66, 89, 69, 32] _).mono ?_
  rintro e c7 ⟨b7, hle, rfl, hbx, hb⟩
  have HOc7 := Lib.hid (map_below HO6.out hb)
  have HBc7 := Lib.hid (below_next HB6.out hb)
  have HZc7 := Lib.hid (Nat.lt_of_lt_of_le HZ6.out hb.size)
  have HSc7 := Lib.hid ((HS6.out.below hb).snoc (by have := HZ6.out; omega) hbx)
  clear hle hbx hb HO6 HB6 HS6 HZ6
  go_wp2_with (refine wpList_insert_own (H := Unit) _ rfl _ (.const (.int .i64 7)) _ 78 rfl 3 62 keyI9 Tryz.underlying78 frmElem w.heap.size 6 _ rfl HOc7.out (by decide) (.int .i64 7) (.agg #[.func (Fn.func 95) #[] #[], .func (Fn.func 96) #[] #[], .func (Fn.func 98) #[] #[.pointer (some ⟨b7, 0, none⟩)]]) (.int .i64 7) rfl rfl (kI9 7 (by decide) (by decide)) (frD 95 96 98 (some b7)) [] (frmElem_of 95 96 98 (some b7)) ?_; intro w7 ho hg; have HO7 := Lib.hid ho; have HB7 := Lib.hid (HBc7.out.grown hg HBc7.out.size (fun j hj => by cases hj; exact Nat.le_refl _)); have HS7 := Lib.hid (HSc7.out.grown hg); have HZ7 := Lib.hid (Nat.lt_of_lt_of_le HZc7.out hg.size); clear ho hg HOc7 HBc7 HSc7 HZc7)
  go_wp2_with fail
  refine (TF.out [42, 32, 66, 65, 68, 32] _).mono ?_
  rintro e c8 ⟨b8, hle, rfl, hbx, hb⟩
  have HOc8 := Lib.hid (map_below HO7.out hb)
  have HBc8 := Lib.hid (below_next HB7.out hb)
  have HZc8 := Lib.hid (Nat.lt_of_lt_of_le HZ7.out hb.size)
  have HSc8 := Lib.hid ((HS7.out.below hb).snoc (by have := HZ7.out; omega) hbx)
  clear hle hbx hb HO7 HB7 HS7 HZ7
  go_wp2_with (first
    | (refine wpList_insert_own (H := Unit) _ rfl _ (.const (.int .i64 8)) _ 78 rfl 3 62 keyI9 Tryz.underlying78 frmElem w.heap.size 7 _ rfl HOc8.out (by decide) (.int .i64 8) (.agg #[.func (Fn.func 95) #[] #[], .func (Fn.func 96) #[] #[], .func (Fn.func 98) #[] #[.pointer (some ⟨b8, 0, none⟩)]]) (.int .i64 8) rfl rfl (kI9 8 (by decide) (by decide)) (frD 95 96 98 (some b8)) [] (frmElem_of 95 96 98 (some b8)) ?_; intro w8 ho hg; have HO8 := Lib.hid ho; have HB8 := Lib.hid (HBc8.out.grown hg HBc8.out.size (fun j hj => by cases hj; exact Nat.le_refl _)); have HS8 := Lib.hid (HSc8.out.grown hg); have HZ8 := Lib.hid (Nat.lt_of_lt_of_le HZc8.out hg.size); clear ho hg HOc8 HBc8 HSc8 HZc8)
    | (refine wpList_insert_own (H := Unit) _ rfl _ (.const (.int .i64 9)) _ 78 rfl 3 62 keyI9 Tryz.underlying78 frmElem w.heap.size 8 _ rfl HO8.out (by decide) (.int .i64 9) (.agg #[.func (Fn.func 74) #[] #[], .func (Fn.func 75) #[] #[], .func (Fn.func 76) #[] #[]]) (.int .i64 9) rfl rfl (kI9 9 (by decide) (by decide)) (frD 74 75 76 none) [] (frmElem_of 74 75 76 none) ?_; intro w9 ho hg; have HO9 := Lib.hid ho; have HB9 := Lib.hid (HB8.out.grown hg HB8.out.size (fun j hj => by cases hj; exact Nat.le_refl _)); have HS9 := Lib.hid (HS8.out.grown hg); have HZ9 := Lib.hid (Nat.lt_of_lt_of_le HZ8.out hg.size); clear ho hg HO8 HB8 HS8 HZ8))
  go_wp2_with fail
  refine (TF.out [43, 32] _).mono ?_
  rintro e c10 ⟨b10, hle, rfl, hbx, hb⟩
  have HOc10 := Lib.hid (map_below HO9.out hb)
  have HBc10 := Lib.hid (below_next HB9.out hb)
  have HZc10 := Lib.hid (Nat.lt_of_lt_of_le HZ9.out hb.size)
  have HSc10 := Lib.hid ((HS9.out.below hb).snoc (by have := HZ9.out; omega) hbx)
  clear hle hbx hb HO9 HB9 HS9 HZ9
  go_wp2_with (refine wpList_insert_own (H := Unit) _ rfl _ (.const (.int .i64 10)) _ 78 rfl 3 62 keyI9 Tryz.underlying78 frmElem w.heap.size 9 _ rfl HOc10.out (by decide) (.int .i64 10) (.agg #[.func (Fn.func 95) #[] #[], .func (Fn.func 96) #[] #[], .func (Fn.func 98) #[] #[.pointer (some ⟨b10, 0, none⟩)]]) (.int .i64 10) rfl rfl (kI9 10 (by decide) (by decide)) (frD 95 96 98 (some b10)) [] (frmElem_of 95 96 98 (some b10)) ?_; intro w10 ho hg; have HO10 := Lib.hid ho; have HB10 := Lib.hid (HBc10.out.grown hg HBc10.out.size (fun j hj => by cases hj; exact Nat.le_refl _)); have HS10 := Lib.hid (HSc10.out.grown hg); have HZ10 := Lib.hid (Nat.lt_of_lt_of_le HZc10.out hg.size); clear ho hg HOc10 HBc10 HSc10 HZc10)
  go_ret
  exact ⟨b1, b2, b3, b6, b7, b8, b10, rfl, HO10.out, HS10.out, HB10.out⟩
end Go.Proofs.YtpoejnajnaolpaaGreatDoor

namespace Go.Proofs.YtpoejnajnaolpaaGreatDoor
open Go.RowKit Go.Maps

/-- The function 'line' of a kind. -/
def lineF (k : Int) : FuncId := if k = 1 ∨ k = 2 ∨ k = 3 then 88 else if k = 4 then 71 else if k = 5 then 94 else if k = 9 then 76 else 98
/-- The word that it holds. -/
def wordR (k : Int) : List UInt8 := if k = 1 ∨ k = 2 ∨ k = 3 then rsWord k else rsPre k
def BoxOk (k : Int) (o : Option Nat) (w : World) : Prop := (o = none ∧ (k = 4 ∨ k = 5 ∨ k = 9)) ∨ ∃ b, o = some b ∧ (k ≠ 4 ∧ k ≠ 5 ∧ k ≠ 9) ∧ w.heap[b]? = some (.cells #[.string ⟨(wordR k).toArray⟩] 9 (0, 0))
theorem BoxOk.below {k : Int} {o : Option Nat} {w w' : World} (h : BoxOk k o w) (hb : Below w.heap.size w w') : BoxOk k o w' := by
  rcases h with h | ⟨b, h1, h2, h3⟩
  · exact .inl h
  · exact .inr ⟨b, h1, h2, (hb.block b (Array.getElem?_eq_some_iff.1 h3).1).trans h3⟩
def capO (o : Option Nat) : Array Value := match o with | none => #[] | some b => #[.pointer (some ⟨b, 0, none⟩)]

set_option maxRecDepth 100000 in
set_option maxHeartbeats 1000000 in
theorem look_frm {w : World} {m b1 b2 b3 b6 b7 b8 b10 : Nat} (hown : w.ownsMap Tryz.prog 3 frmElem m 10 (rsD b1 b2 b3 b6 b7 b8 b10)) (hw : WBs m w [(b1, [69, 88, 73, 83, 84, 83]), (b2, [82, 69, 67, 69, 78, 84]), (b3, [69, 88, 80, 85, 78, 71, 69]), (b6, [42, 32, 79, 75, 32]), (b7, [42, 32, 66, 89, 69, 32]), (b8, [42, 32, 66, 65, 68, 32]), (b10, [43, 32])])
    (k : Int) (h1 : 1 ≤ k) (h2 : k ≤ 10) :
    ∃ o, (Instr.lookup 78 (.map (some m)) (.int .i64 k) true).run Tryz.prog w = .ok (.tuple #[frV (ownF k) (fitF k) (lineF k) o, .bool true]) w ∧ (∀ W, Below w.heap.size w W → (Instr.lookup 78 (.map (some m)) (.int .i64 k) true).run Tryz.prog W = .ok (.tuple #[frV (ownF k) (fitF k) (lineF k) o, .bool true]) W) ∧ BoxOk k o w := by
  obtain ⟨o, hD, hh, hbx⟩ : ∃ o, (rsD b1 b2 b3 b6 b7 b8 b10).atKey (.int .i64 k) .nil = frD (ownF k) (fitF k) (lineF k) o ∧ Maps.has (rsD b1 b2 b3 b6 b7 b8 b10) (.int .i64 k) = true ∧ BoxOk k o w := by
    have hc : k = 1 ∨ k = 2 ∨ k = 3 ∨ k = 4 ∨ k = 5 ∨ k = 6 ∨ k = 7 ∨ k = 8 ∨ k = 9 ∨ k = 10 := by omega
    rcases hc with rfl | rfl | rfl | rfl | rfl | rfl | rfl | rfl | rfl | rfl
    · have hD : (rsD b1 b2 b3 b6 b7 b8 b10).atKey (.int .i64 1) .nil = frD (ownF 1) (fitF 1) (lineF 1) (some b1) := by kernel_rfl
      have hh : Maps.has (rsD b1 b2 b3 b6 b7 b8 b10) (.int .i64 1) = true := by kernel_rfl
      exact ⟨_, hD, hh, .inr ⟨b1, rfl, by decide, (hw (b1, _) (by simp)).2⟩⟩
    · have hD : (rsD b1 b2 b3 b6 b7 b8 b10).atKey (.int .i64 2) .nil = frD (ownF 2) (fitF 2) (lineF 2) (some b2) := by kernel_rfl
      have hh : Maps.has (rsD b1 b2 b3 b6 b7 b8 b10) (.int .i64 2) = true := by kernel_rfl
      exact ⟨_, hD, hh, .inr ⟨b2, rfl, by decide, (hw (b2, _) (by simp)).2⟩⟩
    · have hD : (rsD b1 b2 b3 b6 b7 b8 b10).atKey (.int .i64 3) .nil = frD (ownF 3) (fitF 3) (lineF 3) (some b3) := by kernel_rfl
      have hh : Maps.has (rsD b1 b2 b3 b6 b7 b8 b10) (.int .i64 3) = true := by kernel_rfl
      exact ⟨_, hD, hh, .inr ⟨b3, rfl, by decide, (hw (b3, _) (by simp)).2⟩⟩
    · have hD : (rsD b1 b2 b3 b6 b7 b8 b10).atKey (.int .i64 4) .nil = frD (ownF 4) (fitF 4) (lineF 4) none := by kernel_rfl
      have hh : Maps.has (rsD b1 b2 b3 b6 b7 b8 b10) (.int .i64 4) = true := by kernel_rfl
      exact ⟨_, hD, hh, .inl ⟨rfl, by decide⟩⟩
    · have hD : (rsD b1 b2 b3 b6 b7 b8 b10).atKey (.int .i64 5) .nil = frD (ownF 5) (fitF 5) (lineF 5) none := by kernel_rfl
      have hh : Maps.has (rsD b1 b2 b3 b6 b7 b8 b10) (.int .i64 5) = true := by kernel_rfl
      exact ⟨_, hD, hh, .inl ⟨rfl, by decide⟩⟩
    · have hD : (rsD b1 b2 b3 b6 b7 b8 b10).atKey (.int .i64 6) .nil = frD (ownF 6) (fitF 6) (lineF 6) (some b6) := by kernel_rfl
      have hh : Maps.has (rsD b1 b2 b3 b6 b7 b8 b10) (.int .i64 6) = true := by kernel_rfl
      exact ⟨_, hD, hh, .inr ⟨b6, rfl, by decide, (hw (b6, _) (by simp)).2⟩⟩
    · have hD : (rsD b1 b2 b3 b6 b7 b8 b10).atKey (.int .i64 7) .nil = frD (ownF 7) (fitF 7) (lineF 7) (some b7) := by kernel_rfl
      have hh : Maps.has (rsD b1 b2 b3 b6 b7 b8 b10) (.int .i64 7) = true := by kernel_rfl
      exact ⟨_, hD, hh, .inr ⟨b7, rfl, by decide, (hw (b7, _) (by simp)).2⟩⟩
    · have hD : (rsD b1 b2 b3 b6 b7 b8 b10).atKey (.int .i64 8) .nil = frD (ownF 8) (fitF 8) (lineF 8) (some b8) := by kernel_rfl
      have hh : Maps.has (rsD b1 b2 b3 b6 b7 b8 b10) (.int .i64 8) = true := by kernel_rfl
      exact ⟨_, hD, hh, .inr ⟨b8, rfl, by decide, (hw (b8, _) (by simp)).2⟩⟩
    · have hD : (rsD b1 b2 b3 b6 b7 b8 b10).atKey (.int .i64 9) .nil = frD (ownF 9) (fitF 9) (lineF 9) none := by kernel_rfl
      have hh : Maps.has (rsD b1 b2 b3 b6 b7 b8 b10) (.int .i64 9) = true := by kernel_rfl
      exact ⟨_, hD, hh, .inl ⟨rfl, by decide⟩⟩
    · have hD : (rsD b1 b2 b3 b6 b7 b8 b10).atKey (.int .i64 10) .nil = frD (ownF 10) (fitF 10) (lineF 10) (some b10) := by kernel_rfl
      have hh : Maps.has (rsD b1 b2 b3 b6 b7 b8 b10) (.int .i64 10) = true := by kernel_rfl
      exact ⟨_, hD, hh, .inr ⟨b10, rfl, by decide, (hw (b10, _) (by simp)).2⟩⟩
  have run : ∀ W, W.ownsMap Tryz.prog 3 frmElem m 10 (rsD b1 b2 b3 b6 b7 b8 b10) → (Instr.lookup 78 (.map (some m)) (.int .i64 k) true).run Tryz.prog W = .ok (.tuple #[frV (ownF k) (fitF k) (lineF k) o, .bool true]) W := fun W hW => by
    obtain ⟨v, ps, hrun, hv⟩ := hW.look_ok keyI9 Tryz.underlying78 (zeroFm W) (zd := .nil) (zp := []) rfl (kI9 k (by omega) (by omega))
    rw [hD] at hv
    obtain rfl := frmElem_inv hv
    rw [hh] at hrun
    exact hrun
  exact ⟨o, run w hown, fun W hW => run W (map_below hown hW), hbx⟩
theorem frmElem_nil {v : Value} {ps : List MemPlace} (h : frmElem v = some (.nil, ps)) : v = .agg #[.nilFunc, .nilFunc, .nilFunc] := by
  unfold frmElem at h
  split at h
  · rename_i a
    split at h
    · split at h
      · split at h <;> simp at h
      · cases h
    · rename_i he
      exact congrArg Value.agg (Array.toList_inj.1 he)
    · cases h
  · cases h
set_option maxRecDepth 100000 in
theorem look_none {w : World} {m b1 b2 b3 b6 b7 b8 b10 : Nat} (hown : w.ownsMap Tryz.prog 3 frmElem m 10 (rsD b1 b2 b3 b6 b7 b8 b10)) (k : Int) (h1 : -9223372036854775808 ≤ k) (h2 : k ≤ 9223372036854775807) (hk : ¬ (1 ≤ k ∧ k ≤ 10)) :
    (Instr.lookup 78 (.map (some m)) (.int .i64 k) true).run Tryz.prog w = .ok (.tuple #[.agg #[.nilFunc, .nilFunc, .nilFunc], .bool false]) w := by
  obtain ⟨v, ps, hrun, hv⟩ := hown.look_ok keyI9 Tryz.underlying78 (zeroFm w) (zd := .nil) (zp := []) rfl (kI9 k h1 h2)
  have hne : ∀ {a b : Int}, a ≠ b → Lit.int IntKind.i64 a ≠ .int .i64 b := fun h e => by injection e; contradiction
  have hh : Maps.has (rsD b1 b2 b3 b6 b7 b8 b10) (.int .i64 k) = false := by
    unfold rsD
    rw [has_put_other (hne (by omega)), has_put_other (hne (by omega)), has_put_other (hne (by omega)), has_put_other (hne (by omega)), has_put_other (hne (by omega)), has_put_other (hne (by omega)), has_put_other (hne (by omega)), has_put_other (hne (by omega)), has_put_other (hne (by omega)), has_put_other (hne (by omega))]
    rfl
  have hD : (rsD b1 b2 b3 b6 b7 b8 b10).atKey (.int .i64 k) .nil = .nil := by
    unfold rsD
    rw [atKey_put_other (hne (by omega)), atKey_put_other (hne (by omega)), atKey_put_other (hne (by omega)), atKey_put_other (hne (by omega)), atKey_put_other (hne (by omega)), atKey_put_other (hne (by omega)), atKey_put_other (hne (by omega)), atKey_put_other (hne (by omega)), atKey_put_other (hne (by omega)), atKey_put_other (hne (by omega))]
    rfl
  rw [hD] at hv
  rw [hh] at hrun
  obtain rfl := frmElem_nil hv
  exact hrun

theorem enters_ownF (k : Int) (args : Array Value) (W : World) : (callFunc (ownF k) args).run Tryz.prog W = .ok (.enter (ownF k) args) W := by
  unfold ownF
  split
  · go_simp
  split
  · go_simp
  split
  · go_simp
  split <;> go_simp
theorem enters_fitF (k : Int) (args : Array Value) (W : World) : (callFunc (fitF k) args).run Tryz.prog W = .ok (.enter (fitF k) args) W := by
  unfold fitF
  split
  · go_simp
  split
  · go_simp
  split
  · go_simp
  split <;> go_simp
theorem enters_lineF (k : Int) (args : Array Value) (W : World) : (callFunc (lineF k) args).run Tryz.prog W = .ok (.enter (lineF k) args) W := by
  unfold lineF
  split
  · go_simp
  split
  · go_simp
  split
  · go_simp
  split <;> go_simp

theorem line_any9 (r : RI) (hr : RIok r) (hs : RIsm r) (hf : rsFit r = true) (A : Option Addr) (k : Nat) (o : Option Nat) (w : World) (henv : Env w) (hA : ByAt w.heap.size w A k r.body) (hb : BoxOk r.kind o w) :
    Calls Tryz.prog (lineF r.kind) (#[rsV r A k] ++ capO o) w fun e w' => e = .returned (.string ⟨(rsLine r).toArray⟩) ∧ Below w.heap.size w w' := by
  have hx : (ByteArray.mk r.text.toArray).size ≤ 3000 := by have := hs.text; simpa [ByteArray.size] using this
  have hg : (ByteArray.mk r.tag.toArray).size ≤ 3000 := by have := hs.tag; simpa [ByteArray.size] using this
  unfold lineF rsLine
  split
  · rename_i h
    rcases hb with ⟨_, h2⟩ | ⟨b, rfl, _, h3⟩
    · omega
    unfold wordR at h3
    rw [if_pos h] at h3
    have hw : (ByteArray.mk (rsWord r.kind).toArray).size ≤ 3000 := by unfold rsWord; split <;> (try split) <;> decide
    exact (count2_go r.n r.kind r.status r.items r.flags r.uid r.size ⟨r.tag.toArray⟩ ⟨r.text.toArray⟩ A r.body.length k b ⟨(rsWord r.kind).toArray⟩ hw hr.n w henv (Array.getElem?_eq_some_iff.1 h3).1 (cell_of_row _ _ 0 _ _ _ h3)).mono fun e w' ⟨he, hB⟩ => ⟨by rw [he, ← cat9, ← cat9, ← cat9], hB⟩
  rename_i h123
  split
  · rename_i h
    rcases hb with ⟨rfl, _⟩ | ⟨b, rfl, h2, _⟩
    · exact fetched3_any r A k hr hs w henv hA
    · omega
  rename_i h4
  split
  · rename_i h
    rcases hb with ⟨rfl, _⟩ | ⟨b, rfl, h2, _⟩
    · exact (flags2_go r.kind r.n r.status r.items r.flags r.uid r.size ⟨r.tag.toArray⟩ ⟨r.text.toArray⟩ A r.body.length k w).mono fun e w' ⟨he, hB⟩ => ⟨by rw [he, ← cat9], hB⟩
    · omega
  rename_i h5
  split
  · rename_i h
    have hst : 0 ≤ r.status ∧ r.status ≤ 2 := by
      unfold rsFit at hf
      rw [if_neg h123, if_neg h4, if_neg h5, if_pos h] at hf
      simp at hf
      exact hf.2.2
    rcases hb with ⟨rfl, _⟩ | ⟨b, rfl, h2, _⟩
    · exact (tagged3_go r.kind r.n r.status r.items r.flags r.uid r.size ⟨r.tag.toArray⟩ ⟨r.text.toArray⟩ A r.body.length k hst.1 hst.2 hx hg w).mono fun e w' ⟨he, hB⟩ => ⟨by rw [he, ← cat9, ← cat9, ← cat9, ← cat9], hB⟩
    · omega
  · rename_i h
    rcases hb with ⟨_, h2⟩ | ⟨b, rfl, _, h3⟩
    · omega
    unfold wordR at h3
    rw [if_neg h123] at h3
    have hw : (ByteArray.mk (rsPre r.kind).toArray).size ≤ 3000 := by unfold rsPre; split <;> (try split) <;> (try split) <;> decide
    exact (text3_go r.kind r.n r.status r.items r.flags r.uid r.size ⟨r.tag.toArray⟩ ⟨r.text.toArray⟩ A r.body.length k b ⟨(rsPre r.kind).toArray⟩ hw hx w (Array.getElem?_eq_some_iff.1 h3).1 (cell_of_row _ _ 0 _ _ _ h3)).mono fun e w' ⟨he, hB⟩ => ⟨by rw [he, ← cat9], hB⟩
end Go.Proofs.YtpoejnajnaolpaaGreatDoor
