/- command: verbs, Verb, Kind, items, Item. -/
import Derived.Test.YthfopimgdikpgaaGreatDoorGt
import Derived.Test.YthfopimgdikpgaaGreatDoorGa
namespace Go.Proofs.YthfopimgdikpgaaGreatDoor
open Go.RowKit Go.Maps

def verbsA : Array Value := #[.string ⟨#[]⟩, .string ⟨#[78, 79, 79, 80]⟩, .string ⟨#[76, 79, 71, 79, 85, 84]⟩, .string ⟨#[67, 76, 79, 83, 69]⟩, .string ⟨#[69, 88, 80, 85, 78, 71, 69]⟩, .string ⟨#[83, 69, 76, 69, 67, 84]⟩, .string ⟨#[65, 80, 80, 69, 78, 68]⟩, .string ⟨#[70, 69, 84, 67, 72]⟩, .string ⟨#[83, 84, 79, 82, 69]⟩]
theorem verbsA_at (j : Nat) (hj : j < 9) : verbsA[j]? = some (.string ⟨(verbLs[j]'hj).toArray⟩) := by
  have h : j = 0 ∨ j = 1 ∨ j = 2 ∨ j = 3 ∨ j = 4 ∨ j = 5 ∨ j = 6 ∨ j = 7 ∨ j = 8 := by omega
  rcases h with rfl | rfl | rfl | rfl | rfl | rfl | rfl | rfl | rfl <;> rfl

set_option maxRecDepth 100000 in
theorem verbs_any (w : World) :
    Calls Tryz.prog 37 #[] w fun e w' => e = .returned (.slice (some ⟨w.heap.size, 0, none⟩) 9 9) ∧ w' = w.alloc (.cells verbsA 9) := by
  go_enter Tryz.func37, Tryz.ntmps37
  go_wp2
  go_ret
  exact ⟨rfl, rfl⟩

theorem verbs_cell (w : World) (j : Nat) (hj : j < 9) : (w.alloc (.cells verbsA 9)).cell? ⟨w.heap.size, j, none⟩ = some (.string ⟨(verbLs[j]'hj).toArray⟩) := by
  rw [cell_of_row _ w.heap.size j _ _ _ (heap_alloc_new w _)]
  exact verbsA_at j hj

theorem verbLs_at : ∀ n : Fin 9, verbLs[n.val]'n.isLt = verbZ (n.val : Int) := by decide

set_option maxRecDepth 100000 in
set_option maxHeartbeats 1000000 in
theorem verb_any (k : Int) (h1 : -9223372036854775808 ≤ k) (h2 : k ≤ 9223372036854775807) (w : World) :
    Calls Tryz.prog 19 #[.int .i64 k] w fun e w' => e = .returned (.string ⟨(verbZ k).toArray⟩) ∧ Below w.heap.size w w' := by
  have V := Lib.hid (fun w1 => verbs_any w1)
  by_cases hlt : k < 0
  · have d1 : decide (k < 0) = true := by simpa using hlt
    have R := Lib.hid (show verbZ k = [] by unfold verbZ; rw [if_neg (by omega)])
    clear hlt
    go_enter Tryz.func19, Tryz.ntmps19
    go_wp2_with fail
    refine (V.out _).mono ?_
    rintro e w1 ⟨rfl, rfl⟩
    go_wp2_with fail
    go_ret
    exact ⟨by rw [R.out]; rfl, below_al _ _⟩
  · have d1 : decide (k < 0) = false := by simpa using hlt
    by_cases h9 : 9 ≤ k
    · have d2 : decide ((9 : Int) ≤ k) = true := by simpa using h9
      have R := Lib.hid (show verbZ k = [] by unfold verbZ; rw [if_neg (by omega)])
      clear hlt
      go_enter Tryz.func19, Tryz.ntmps19
      go_wp2_with fail
      refine (V.out _).mono ?_
      rintro e w1 ⟨rfl, rfl⟩
      go_wp2_with fail
      go_ret
      exact ⟨by rw [R.out]; rfl, below_al _ _⟩
    · obtain ⟨n, rfl⟩ : ∃ n : Nat, k = n := ⟨k.toNat, by omega⟩
      have hn : n < 9 := by omega
      have c0 := verbs_cell w n hn
      have R := Lib.hid (show verbLs[n]'hn = verbZ (n : Int) from verbLs_at ⟨n, hn⟩)
      have d2 : decide ((9 : Int) ≤ (n : Int)) = false := by simp; omega
      generalize verbLs[n]'hn = y at *
      have HB := Lib.hid (below_al w (.cells verbsA 9))
      clear hlt h9 h1 h2
      generalize hw : w.alloc (.cells verbsA 9) = wA at *
      have HW := Lib.hid hw
      clear hw
      go_enter Tryz.func19, Tryz.ntmps19
      go_wp2_with fail
      refine (V.out _).mono ?_
      rw [HW.out]
      rintro e w1 ⟨rfl, rfl⟩
      go_wp2_with fail
      go_ret
      exact ⟨by rw [R.out]; rfl, HB.out⟩

/-- slices.Index over strings. -/
theorem sidx_found {ls : List (List UInt8)} {x : List UInt8} {k : Nat} (hk : k < ls.length) (hb : ∀ j, (h : j < ls.length) → j < k → ls[j] ≠ x) (he : ls[k] = x) : idxI ls x = k := by
  unfold idxI
  have hm : x ∈ ls := by rw [← he]; exact List.getElem_mem hk
  rw [if_pos hm]
  have h1 := List.idxOf_lt_length_of_mem hm
  have h2 : ls[ls.idxOf x] = x := List.getElem_idxOf h1
  have h3 : ¬ ls.idxOf x < k := fun h => hb _ h1 h h2
  have h4 : ¬ k < ls.idxOf x := fun h => by
    have := List.not_of_lt_findIdx (p := (· == x)) (xs := ls) h
    simp [he] at this
  omega
theorem sidx_none {ls : List (List UInt8)} {x : List UInt8} (hb : ∀ j, (h : j < ls.length) → ls[j] ≠ x) : idxI ls x = -1 := by
  unfold idxI
  rw [if_neg]
  intro hm
  obtain ⟨j, hj, he⟩ := List.getElem_of_mem hm
  exact hb j hj he

set_option maxRecDepth 100000 in
set_option maxHeartbeats 1000000 in
theorem sindex_any (b n : Nat) (ls : List (List UInt8)) (hn : ls.length = n) (hl : n ≤ 1000000) (x : List UInt8) (w : World) (hc : ∀ j, (h : j < ls.length) → w.cell? ⟨b, j, none⟩ = some (.string ⟨ls[j].toArray⟩)) :
    Calls Tryz.prog 36 #[.slice (some ⟨b, 0, none⟩) n n, .string ⟨x.toArray⟩] w fun e w' => e = .returned (.int .i64 (idxI ls x)) ∧ w = w' := by
  obtain ⟨q, hq⟩ : ∃ q, idxI ls x = q := ⟨_, rfl⟩
  rw [hq]
  have HQ := Lib.hid hq
  have HC := Lib.hid hc
  have HN := Lib.hid hn
  clear hq hc hn
  go_enter Tryz.func36, Tryz.ntmps36
  go_wp2_with fail
  go_loop [8] (fun i => ∃ k : Nat, k ≤ n ∧ i = .int .i64 k ∧ Hid (∀ j, (h : j < ls.length) → j < k → ls[j] ≠ x)) (fun i => n - (intOf i).toNat)
  case atStart => exact ⟨0, Nat.zero_le _, rfl, Lib.hid (fun j _ h => absurd h (Nat.not_lt_zero _))⟩
  case round =>
    obtain ⟨k, hk, rfl, hD⟩ := hrel
    by_cases hlt : k < n
    · have hkl : k < ls.length := by rw [HN.out]; exact hlt
      have c0 := HC.out k hkl
      obtain ⟨y, hy⟩ : ∃ y, ls[k] = y := ⟨_, rfl⟩
      rw [hy] at c0
      have HY := Lib.hid hy
      clear hy
      by_cases he : x = y
      · have hb1 : (x == y) = true := by simpa using he
        have R := Lib.hid (show (k : Int) = q by rw [← HQ.out, sidx_found hkl hD.out (HY.out.trans he.symm)])
        clear he
        go_wp2_with fail
        go_ret
        exact ⟨ret_int R.out, rfl⟩
      · have hb1 : (x == y) = false := by simpa using he
        have HE := Lib.hid he
        clear he
        go_wp2_with fail
        go_round
        case rel => exact ⟨k + 1, by omega, by go_num, Lib.hid (fun j hj hjk => by
          rcases Nat.lt_succ_iff_lt_or_eq.1 hjk with h | rfl
          · exact hD.out j hj h
          · exact fun e => HE.out (e.symm.trans HY.out))⟩
        case measure => simp [intOf]; omega
    · obtain rfl : k = n := by omega
      have R := Lib.hid (show (-1 : Int) = q by rw [← HQ.out, sidx_none (fun j hj => hD.out j hj (by rw [← HN.out]; exact hj))])
      go_wp2_with fail
      go_ret
      exact ⟨ret_int R.out, rfl⟩

set_option maxRecDepth 100000 in
set_option maxHeartbeats 1000000 in
theorem kind_any (s : ByteArray) (hs : s.size ≤ 1000000000) (w : World) :
    Calls Tryz.prog 17 #[.string s] w fun e w' => e = .returned (.tuple #[.int .i64 (kindL s.data.toList : Int), .bool (decide (0 < kindL s.data.toList))]) ∧ Below w.heap.size w w' := by
  have V := Lib.hid (fun w1 => verbs_any w1)
  have U := Lib.hid (fun w1 => upper_any s hs w1)
  have K := Lib.hid (idx_kind (upL s.data.toList))
  have hz := idx_kind (upL s.data.toList)
  have SI := Lib.hid (fun (w1 : World) (hB : Below (w.alloc (.cells verbsA 9)).heap.size (w.alloc (.cells verbsA 9)) w1) => sindex_any w.heap.size 9 verbLs rfl (by decide) (upL s.data.toList) w1 (fun j hj => (hB.cell (p := ⟨w.heap.size, j, none⟩) (by simp)).trans (verbs_cell w j hj)))
  unfold kindL
  have hk8 := kindU_le (upL s.data.toList)
  generalize kindU (upL s.data.toList) = kd at *
  generalize upL s.data.toList = y at *
  generalize idxI verbLs y = q at *
  clear K
  have HZ := Lib.hid hz
  clear hz
  have HB0 := Lib.hid (below_al w (.cells verbsA 9))
  generalize hw : w.alloc (.cells verbsA 9) = wA at *
  have HW := Lib.hid hw
  clear hw
  go_enter Tryz.func17, Tryz.ntmps17
  go_wp2_with fail
  refine (V.out _).mono ?_
  rw [HW.out]
  rintro e w1 ⟨rfl, rfl⟩
  go_wp2_with fail
  refine (U.out _).mono ?_
  rintro e w2 ⟨rfl, hb2⟩
  have HB2 := Lib.hid hb2
  clear hb2
  go_wp2_with fail
  refine (SI.out _ HB2.out).mono ?_
  rintro e w3 ⟨rfl, rfl⟩
  go_wp2_with fail
  refine bodyPost_ret (v := .tuple #[.int .i64 (max q 0), .bool (decide (0 < max q 0))]) (by simp [results, Tryz.results17, go_sem]) rfl ⟨?_, below_next HB0.out HB2.out⟩
  rw [HZ.out, show decide ((0 : Int) < (kd : Int)) = decide (0 < kd) by rw [decide_eq_decide]; omega]

/-! The items' map. -/

def intD (f : Nat) : DataW Unit := .lit (.int .i64 (f : Int))
def itD : DataW Unit := (((((DataW.map []).put (.string (itemB 1)) (intD 1)).put (.string (itemB 2)) (intD 2)).put (.string (itemB 4)) (intD 4)).put (.string (itemB 8)) (intD 8)).put (.string (itemB 16)) (intD 16)
theorem isMap_it : IsMap itD := ((((isMap_empty.put _ _).put _ _).put _ _).put _ _).put _ _
theorem it_at (l : List UInt8) (z : DataW Unit) : itD.atKey (.string l) z = if itemU l ≠ 0 then intD (itemU l) else z := by
  rcases itemU_is l with h | ⟨h, he⟩
  · rw [if_neg (by simpa using h)]
    have hn : ∀ f, f ∈ itms → Lit.string (itemB f) ≠ .string l := fun f hf e => by
      injection e with e
      rw [← e, itemU_name hf] at h
      subst h
      simp [itms] at hf
    unfold itD
    rw [atKey_put_other (hn 16 (by decide)).symm, atKey_put_other (hn 8 (by decide)).symm, atKey_put_other (hn 4 (by decide)).symm, atKey_put_other (hn 2 (by decide)).symm, atKey_put_other (hn 1 (by decide)).symm]
    rfl
  · generalize itemU l = f at *
    subst he
    rcases itms_mem.1 h with rfl | rfl | rfl | rfl | rfl <;> kernel_rfl
theorem it_has (l : List UInt8) : Maps.has itD (.string l) = decide (itemU l ≠ 0) := by
  by_cases h0 : itemU l = 0
  · rw [has_false_of_atKey (fun z => by rw [it_at, if_neg (by simpa using h0)])]
    simp [h0]
  · rw [has_true_of_atKey (fun z => by rw [it_at, if_pos h0])]
    simp [h0]
theorem eI (n : Nat) (h : n ≤ 255) : plainElem (H := Unit) Tryz.prog 3 (.int .i64 (n : Int)) = some (intD n, []) :=
  plainElem_int Tryz.underlying3 (by simp [Lit.wf, IntKind.min, IntKind.max, IntKind.signed, IntKind.bits]; omega)
theorem intD_inj {x : Int} {f : Nat} (h : (DataW.lit (.int .i64 x) : DataW Unit) = intD f) : x = (f : Int) := by
  unfold intD at h
  injection h with h
  injection h
theorem zeroI (w : World) : (zeroValue 3).run Tryz.prog w = .ok (.int .i64 0) w := by kernel_rfl

set_option maxRecDepth 100000 in
theorem items_any (w : World) :
    Calls Tryz.prog 39 #[] w fun e w' => e = .returned (.map (some w.heap.size)) ∧ w'.ownsMap Tryz.prog 9 (plainElem Tryz.prog 3) w.heap.size 5 itD ∧ Below w.heap.size w w' := by
  have hmm := @run_makeMap Tryz.prog
  have hown := World.ownsMap_made (H := Unit) w Tryz.prog 9 (plainElem Tryz.prog 3)
  have hb : Below w.heap.size w (w.alloc (.map #[] 0)) := (Below.refl _ _).alloc (Nat.le_refl _) _
  have HO := Lib.hid hown
  clear hown
  go_enter Tryz.func39, Tryz.ntmps39
  go_wp2_with (first
    | (refine wpList_insert_own (H := Unit) _ rfl _ (.const (.string ⟨(itemB 1).toArray⟩)) _ 61 rfl 9 3 keyS Tryz.underlying61 (plainElem Tryz.prog 3) w.heap.size 0 _ rfl HO.out (by decide) (.string ⟨(itemB 1).toArray⟩) _ (.string (itemB 1)) rfl rfl (kS (itemB 1) (by decide)) _ [] (eI 1 (by decide)) ?_; intro w1 ho1 hg1; have HO1 := Lib.hid ho1; have hb1 := hb.grown hg1 (by simp) (fun j hj => by cases hj; exact Nat.le_refl _); clear ho1 hg1)
    | (refine wpList_insert_own (H := Unit) _ rfl _ (.const (.string ⟨(itemB 2).toArray⟩)) _ 61 rfl 9 3 keyS Tryz.underlying61 (plainElem Tryz.prog 3) w.heap.size 1 _ rfl HO1.out (by decide) (.string ⟨(itemB 2).toArray⟩) _ (.string (itemB 2)) rfl rfl (kS (itemB 2) (by decide)) _ [] (eI 2 (by decide)) ?_; intro w2 ho2 hg2; have HO2 := Lib.hid ho2; have hb2 := hb1.grown hg2 hb1.size (fun j hj => by cases hj; exact Nat.le_refl _); clear ho2 hg2)
    | (refine wpList_insert_own (H := Unit) _ rfl _ (.const (.string ⟨(itemB 4).toArray⟩)) _ 61 rfl 9 3 keyS Tryz.underlying61 (plainElem Tryz.prog 3) w.heap.size 2 _ rfl HO2.out (by decide) (.string ⟨(itemB 4).toArray⟩) _ (.string (itemB 4)) rfl rfl (kS (itemB 4) (by decide)) _ [] (eI 4 (by decide)) ?_; intro w3 ho3 hg3; have HO3 := Lib.hid ho3; have hb3 := hb2.grown hg3 hb2.size (fun j hj => by cases hj; exact Nat.le_refl _); clear ho3 hg3)
    | (refine wpList_insert_own (H := Unit) _ rfl _ (.const (.string ⟨(itemB 8).toArray⟩)) _ 61 rfl 9 3 keyS Tryz.underlying61 (plainElem Tryz.prog 3) w.heap.size 3 _ rfl HO3.out (by decide) (.string ⟨(itemB 8).toArray⟩) _ (.string (itemB 8)) rfl rfl (kS (itemB 8) (by decide)) _ [] (eI 8 (by decide)) ?_; intro w4 ho4 hg4; have HO4 := Lib.hid ho4; have hb4 := hb3.grown hg4 hb3.size (fun j hj => by cases hj; exact Nat.le_refl _); clear ho4 hg4)
    | (refine wpList_insert_own (H := Unit) _ rfl _ (.const (.string ⟨(itemB 16).toArray⟩)) _ 61 rfl 9 3 keyS Tryz.underlying61 (plainElem Tryz.prog 3) w.heap.size 4 _ rfl HO4.out (by decide) (.string ⟨(itemB 16).toArray⟩) _ (.string (itemB 16)) rfl rfl (kS (itemB 16) (by decide)) _ [] (eI 16 (by decide)) ?_; intro w5 ho5 hg5; have HO5 := Lib.hid ho5; have hb5 := hb4.grown hg5 hb4.size (fun j hj => by cases hj; exact Nat.le_refl _); clear ho5 hg5))
  go_ret
  exact ⟨rfl, HO5.out, hb5⟩

/-- A name is looked for among the items. -/
theorem look_item {w : World} {b : Nat} (hown : w.ownsMap Tryz.prog 9 (plainElem Tryz.prog 3) b 5 itD) (u : List UInt8) (hu : u.length ≤ 1000000000) :
    (Instr.lookup 61 (.map (some b)) (.string ⟨u.toArray⟩) true).run Tryz.prog w = .ok (.tuple #[.int .i64 (itemU u : Nat), .bool (decide (itemU u ≠ 0))]) w := by
  obtain ⟨v, ps, hrun, hv⟩ := hown.look_ok keyS Tryz.underlying61 (zeroI w) (eI 0 (by decide)) (kS u hu)
  rw [it_at] at hv
  obtain ⟨x, rfl, hx, _⟩ := plainElem_int_inv Tryz.underlying3 hv
  simp only [Prod.mk.injEq] at hx
  have hv2 : x = (itemU u : Int) := by
    have h1 := hx.1
    clear hrun hv hx hown
    generalize itemU u = f at *
    by_cases h0 : f = 0
    · rw [if_neg (by simpa using h0)] at h1
      rw [h0]
      exact intD_inj h1.symm
    · rw [if_pos h0] at h1
      exact intD_inj h1.symm
  subst hv2
  rw [hrun, it_has]

set_option maxRecDepth 100000 in
set_option maxHeartbeats 1000000 in
theorem item_any (s : ByteArray) (hs : s.size ≤ 1000000000) (w : World) :
    Calls Tryz.prog 18 #[.string s] w fun e w' => e = .returned (.tuple #[.int .i64 (itemL s.data.toList : Nat), .bool (decide (itemL s.data.toList ≠ 0))]) ∧ Below w.heap.size w w' := by
  have V := Lib.hid (fun w1 => items_any w1)
  have U := Lib.hid (fun w1 => upper_any s hs w1)
  have hlen : (upL s.data.toList).length ≤ 1000000000 := by rw [upL_length, Array.length_toList]; exact hs
  have LK := Lib.hid (fun (W : World) (h : W.ownsMap Tryz.prog 9 (plainElem Tryz.prog 3) w.heap.size 5 itD) => look_item h (upL s.data.toList) hlen)
  unfold itemL
  generalize itemU (upL s.data.toList) = kd at *
  generalize upL s.data.toList = y at *
  generalize decide (kd ≠ 0) = q at *
  go_enter Tryz.func18, Tryz.ntmps18
  go_wp2_with fail
  refine (V.out _).mono ?_
  rintro e w1 ⟨rfl, ho, hb1⟩
  have HO := Lib.hid ho
  have HB1 := Lib.hid hb1
  clear ho hb1
  go_wp2_with fail
  refine (U.out _).mono ?_
  rintro e w2 ⟨rfl, hb2⟩
  have HB2 := Lib.hid (below_next HB1.out hb2)
  have lk := LK.out w2 (HO.out.kept (row := none) (grown_of_below hb2) (by simp))
  clear hb2
  go_wp2_with fail
  refine bodyPost_ret (v := .tuple #[.int .i64 (kd : Int), .bool q]) (by simp [results, Tryz.results18, go_sem]) rfl ⟨rfl, HB2.out⟩
end Go.Proofs.YthfopimgdikpgaaGreatDoor
