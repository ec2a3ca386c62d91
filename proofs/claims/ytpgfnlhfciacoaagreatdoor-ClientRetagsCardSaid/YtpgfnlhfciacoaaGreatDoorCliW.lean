/- client: the closure that puts a part of the text; the writers' map. -/
import Derived.Test.YtpgfnlhfciacoaaGreatDoorTbRow
import Derived.Test.YtpgfnlhfciacoaaGreatDoorGf
import Derived.Test.YtpgfnlhfciacoaaGreatDoorGa
import Derived.Test.YtpgfnlhfciacoaaGreatDoorGv
namespace Go.Proofs.YtpgfnlhfciacoaaGreatDoor
open Go.RowKit Go.Maps

/-- The text under way: the box bb holds a slice in the row of block g, which reads as l. -/
structure PutB (B bb g : Nat) (l : List UInt8) (w : World) : Prop where
  hb : B ≤ bb
  hg : B ≤ g
  ne : bb ≠ g
  hw : B ≤ w.heap.size
  ex : ∃ c, w.heap[bb]? = some (.cells #[.slice (some ⟨g, 0, none⟩) l.length c] 24 (0, 0)) ∧ TbR g w c l
theorem PutB.blt {B bb g : Nat} {l : List UInt8} {w : World} (h : PutB B bb g l w) : bb < w.heap.size := by
  obtain ⟨c, hx, _⟩ := h.ex
  exact (Array.getElem?_eq_some_iff.1 hx).1
theorem PutB.glt {B bb g : Nat} {l : List UInt8} {w : World} (h : PutB B bb g l w) : g < w.heap.size := by
  obtain ⟨c, _, hT⟩ := h.ex
  exact hT.lt
theorem PutB.below {B bb g : Nat} {l : List UInt8} {w w' : World} (h : PutB B bb g l w) (hb : Below w.heap.size w w') : PutB B bb g l w' := by
  have h0 := h.blt
  obtain ⟨h1, h2, h3, h4, c, hx, hT⟩ := h
  exact ⟨h1, h2, h3, Nat.le_trans h4 hb.size, c, (hb.block bb h0).trans hx, hT.below hb⟩
/-- All else is as it was. -/
def Oth (bb g : Nat) (w w' : World) : Prop := ∀ k, k < w.heap.size → k ≠ bb → k ≠ g → w'.heap[k]? = w.heap[k]?
theorem put_set {B bb g g' c' n : Nat} {l l' : List UInt8} {w W w' : World} (h : PutB B bb g l w) (hW : Below w.heap.size w W) (hg : W.grownBy w' (some g)) (hT : TbR g' w' c' l') (hor : g' = g ∨ W.heap.size ≤ g') (hn : l'.length = n) :
    PutB B bb g' l' (w'.setCell ⟨bb, 0, none⟩ (.slice (some ⟨g', 0, none⟩) n c')) ∧ Below B w (w'.setCell ⟨bb, 0, none⟩ (.slice (some ⟨g', 0, none⟩) n c')) ∧ Oth bb g w (w'.setCell ⟨bb, 0, none⟩ (.slice (some ⟨g', 0, none⟩) n c')) := by
  subst hn
  have hlt := h.blt
  obtain ⟨h1, h2, h3, h4, c, hx, _⟩ := h
  have hWs := hW.size
  have hsz := hg.size
  have hne' : bb ≠ g' := by
    rcases hor with rfl | hor
    · exact h3
    · omega
  have hbox : w'.heap[bb]? = some (.cells #[.slice (some ⟨g, 0, none⟩) l.length c] 24 (0, 0)) := (hg.block bb (by omega) (fun e => h3 (Option.some.inj e))).trans ((hW.block bb hlt).trans hx)
  have other : ∀ k, k ≠ bb → (w'.setCell ⟨bb, 0, none⟩ (.slice (some ⟨g', 0, none⟩) l'.length c')).heap[k]? = w'.heap[k]? := fun k hk => Below.heap_setCell _ _ _ k hk
  have hBw : Below B w w' := (hW.mono h4).grown hg (by omega) (fun k hk => by injection hk with hk; omega)
  refine ⟨⟨h1, ?_, hne', ?_, c', ?_, hT.kept (other g' (Ne.symm hne'))⟩, hBw.setCell (p := ⟨bb, 0, none⟩) h1 _, fun k hk k1 k2 => ?_⟩
  · rcases hor with rfl | hor
    · exact h2
    · omega
  · simp; omega
  · rw [Joins.block_setCell hbox]; simp
  · rw [other k k1, hg.block k (by omega) (fun e => k2 (Option.some.inj e))]
    exact hW.block k hk

set_option maxRecDepth 100000 in
set_option maxHeartbeats 2000000 in
theorem cput_any (B bb g : Nat) (l p : List UInt8) (hl : l.length ≤ 10000000) (hp : p.length ≤ 10000000) (w : World) (h : PutB B bb g l w) :
    Calls Tryz.prog 80 #[.string ⟨p.toArray⟩, .pointer (some ⟨bb, 0, none⟩)] w fun e w' =>
      e = .returned (.tuple #[]) ∧ (∃ g', PutB B bb g' (l ++ 32 :: p) w' ∧ (g' = g ∨ w.heap.size ≤ g') ∧ Oth bb g w w') ∧ Below B w w' := by
  obtain ⟨c, hbox, hT⟩ := h.ex
  have c1 : w.cell? ⟨bb, 0, none⟩ = some (.slice (some ⟨g, 0, none⟩) l.length c) := cell_of_row w bb 0 _ _ _ hbox
  obtain ⟨n, hn⟩ : ∃ n, l.length = n := ⟨_, rfl⟩
  have HAL := Lib.hid (below_al w (.cells #[.int .u8 32] 5))
  have HT1 := Lib.hid (hT.below HAL.out)
  have S1 := Lib.hid (src_one (w.alloc (.cells #[.int .u8 32] 5)) w.heap.size 32 1 (cell_of_row _ _ 0 _ _ _ (heap_alloc_new w _)))
  have HB := Lib.hid h
  have HN := Lib.hid hn
  have hbg := h.ne
  have hblt := h.blt
  have HBOX := Lib.hid (show (w.alloc (.cells #[.int .u8 32] 5)).heap[bb]? = some (.cells #[.slice (some ⟨g, 0, none⟩) l.length c] 24 (0, 0)) from (HAL.out.block bb hblt).trans hbox)
  have HL := Lib.hid (show bb < (w.alloc (.cells #[.int .u8 32] 5)).heap.size by rw [World.size_alloc]; omega)
  rw [hn] at c1 hl HBOX
  have HH : Hid (n + 1 ≤ 1000000000) := Lib.hid (by omega)
  clear h hT hbox hn hblt
  go_enter Tryz.func80, Tryz.ntmps80
  go_upto_region 1 with (at_builtin; refine wpList_append_tb rfl _ _ 24 rfl g c n l HT1.out HN.out rfl _ 1 [32] rfl S1.out HH.out (n + 1) rfl ?_; intro g1 c1' w1 hT1 hor1 hg1; have K1 := Lib.hid ((hg1.out.block bb HL.out (fun e => hbg (Option.some.inj e))).trans HBOX.out); have d1 := cell_of_row w1 bb 0 _ _ _ K1.out; have f1 := Joins.unfrozen_of_block K1.out 0)
  have hn1 : (l ++ [32]).length = n + 1 := by rw [List.length_append, HN.out]; rfl
  obtain ⟨P1, B1, O1⟩ := put_set HB.out HAL.out hg1.out hT1.out hor1.out hn1
  have hor1' : g1 = g ∨ w.heap.size ≤ g1 := by
    rcases hor1.out with e | e
    · exact .inl e
    · exact .inr (by rw [World.size_alloc] at e; omega)
  have HO1 := Lib.hid O1
  have HB1 := Lib.hid B1
  have HP1 := Lib.hid P1
  have HG1 := Lib.hid hor1'
  have HS1 := Lib.hid B1.size
  clear O1 B1 P1 hor1' hor1 hT1 hg1 HT1 S1 HB HBOX HL K1 d1 f1 c1 HAL HH HN
  generalize w1.setCell ⟨bb, 0, none⟩ (.slice (some ⟨g1, 0, none⟩) (n + 1) c1') = w2 at *
  clear w1 hbg
  obtain ⟨c2, hbox2, hT2⟩ := HP1.out.ex
  have e2 : w2.cell? ⟨bb, 0, none⟩ = some (.slice (some ⟨g1, 0, none⟩) (l ++ [32]).length c2) := cell_of_row w2 bb 0 _ _ _ hbox2
  rw [hn1] at e2 hbox2
  have HN1 := Lib.hid hn1
  have HT2 := Lib.hid hT2
  have S2 := Lib.hid (src_str w2 ⟨p.toArray⟩)
  have hz : (ByteArray.mk p.toArray).size = p.length := by show p.toArray.size = _; simp
  rw [hz, show (ByteArray.mk p.toArray).data.toList = p from rfl] at S2
  have hbg := HP1.out.ne
  have HL := Lib.hid HP1.out.blt
  have HBOX := Lib.hid hbox2
  have HPL := Lib.hid (show (l ++ [32] ++ p).length = n + 1 + p.length by rw [List.length_append, HN1.out])
  obtain ⟨m, hm⟩ : ∃ m, p.length = m := ⟨_, rfl⟩
  rw [hm] at S2 HPL hp
  have HH : Hid (n + 1 + m ≤ 1000000000) := Lib.hid (by omega)
  have HE := Lib.hid (show l ++ 32 :: p = l ++ [32] ++ p by simp)
  clear hbox2 hT2 hn1 hz hm
  generalize ByteArray.mk p.toArray = pb at *
  go_wp2_with (at_builtin; refine wpList_append_tb rfl _ _ 9 rfl g1 c2 (n + 1) (l ++ [32]) HT2.out HN1.out rfl _ m p rfl S2.out HH.out (n + 1 + m) rfl ?_; intro g3 c3 w3 hT3 hor3 hg3; have K3 := Lib.hid ((hg3.out.block bb HL.out (fun e => hbg (Option.some.inj e))).trans HBOX.out); have d3 := cell_of_row w3 bb 0 _ _ _ K3.out; have f3 := Joins.unfrozen_of_block K3.out 0)
  obtain ⟨P3, B3, O3⟩ := put_set HP1.out (Below.refl _ _) hg3.out hT3.out hor3.out HPL.out
  go_end0
  rw [HE.out]
  refine ⟨rfl, ⟨g3, P3, ?_, fun k hk k1 k2 => ?_⟩, HB1.out.trans B3⟩
  · have h1 := HG1.out
    have h2 := HS1.out
    rcases hor3.out with rfl | e
    · exact h1
    · exact .inr (by omega)
  · have h1 := HG1.out
    refine (O3 k (by have := HS1.out; omega) k1 ?_).trans (HO1.out k hk k1 k2)
    rcases h1 with rfl | h1
    · exact k2
    · omega

/-! The writers. -/

/-- How a writer reads: by its function's number. -/
def wrElem : Value → Option (DataW Unit × List MemPlace)
  | .agg a => match a.toList with
    | [.func (.func n) x y] => if x.size = 0 ∧ y.size = 0 then some (.lit (.int .i64 n), []) else none
    | [.nilFunc] => some (.nil, [])
    | _ => none
  | _ => none
theorem wrElem_fn {v : Value} {n : Nat} {ps : List MemPlace} (h : wrElem v = some (.lit (.int .i64 n), ps)) : v = .agg #[.func (.func n) #[] #[]] := by
  unfold wrElem at h
  split at h
  · rename_i a
    split at h
    · rename_i m x y he
      split at h
      · rename_i hs
        simp at h
        obtain ⟨h, _⟩ := h
        have hx : x = #[] := by apply Array.eq_empty_of_size_eq_zero hs.1
        have hy : y = #[] := by apply Array.eq_empty_of_size_eq_zero hs.2
        subst hx hy
        have ha : a = #[.func (.func m) #[] #[]] := Array.toList_inj.1 he
        subst ha
        first
          | (subst h; rfl)
          | (have hm : m = n := Int.ofNat.inj h; subst hm; rfl)
      · cases h
    · simp at h
    · cases h
  · cases h
def wrV (n : Nat) : Value := .agg #[.func (.func n) #[] #[]]
theorem wrElem_of (n : Nat) : wrElem (.agg #[.func (.func n) #[] #[]]) = some (.lit (.int .i64 (n : Int)), []) := rfl
def wrF (k : Nat) : FuncId := if k ≤ 4 then 122 else if k = 5 then 123 else if k = 6 then 124 else if k = 7 then 125 else 126
def wrN (n : Nat) : DataW Unit := .lit (.int .i64 (n : Int))
def wrD : DataW Unit :=
  ((((((((DataW.map []).put (.int .i64 1) (wrN 122)).put (.int .i64 2) (wrN 122)).put (.int .i64 3) (wrN 122)).put (.int .i64 4) (wrN 122)).put (.int .i64 5) (wrN 123)).put (.int .i64 6) (wrN 124)).put (.int .i64 7) (wrN 125)).put (.int .i64 8) (wrN 126)
theorem keyI8 : Keyed Tryz.prog 3 := int_keyed Tryz.underlying3
theorem kI8 (x : Int) (h1 : -9223372036854775808 ≤ x) (h2 : x ≤ 9223372036854775807) : keyOf Tryz.prog 3 (.int .i64 x) = some (.int .i64 x) :=
  keyOf_int_mk Tryz.underlying3 (by simp [Lit.wf, IntKind.min, IntKind.max, IntKind.signed, IntKind.bits]; omega)
theorem zeroWr (w : World) : (zeroValue 124).run Tryz.prog w = .ok (.agg #[.nilFunc]) w := by kernel_rfl

theorem look_wr {w : World} {m : Nat} (hown : w.ownsMap Tryz.prog 3 wrElem m 8 wrD) (k : Nat) (h1 : 1 ≤ k) (h8 : k ≤ 8) :
    (Instr.lookup 125 (.map (some m)) (.int .i64 (k : Int)) false).run Tryz.prog w = .ok (wrV (wrF k)) w := by
  obtain ⟨v, ps, hrun, hv⟩ := hown.lookup keyI8 Tryz.underlying125 (zeroWr w) (zd := .nil) (zp := []) rfl (kI8 k (by omega) (by omega))
  have hD : wrD.atKey (.int .i64 (k : Int)) .nil = wrN (wrF k) := by
    have hc : k = 1 ∨ k = 2 ∨ k = 3 ∨ k = 4 ∨ k = 5 ∨ k = 6 ∨ k = 7 ∨ k = 8 := by omega
    clear hv
    rcases hc with rfl | rfl | rfl | rfl | rfl | rfl | rfl | rfl
    all_goals (show DataW.atKey _ _ _ = _; kernel_rfl)
  rw [hD] at hv
  obtain rfl := wrElem_fn hv
  exact hrun

set_option maxRecDepth 100000 in
set_option maxHeartbeats 2000000 in
theorem writers_any (w : World) :
    Calls Tryz.prog 82 #[] w fun e w' => e = .returned (.map (some (w.heap.size + 1))) ∧ w'.ownsMap Tryz.prog 3 wrElem (w.heap.size + 1) 8 wrD ∧ Below w.heap.size w w' := by
  have hmm := @run_makeMap Tryz.prog
  obtain ⟨wA, hwA⟩ : ∃ wA, w.alloc (.cells #[.func (.func 122) #[] #[]] 124) = wA := ⟨_, rfl⟩
  have hsA : wA.heap.size = w.heap.size + 1 := by rw [← hwA, World.size_alloc]
  have hown := World.ownsMap_made (H := Unit) wA Tryz.prog 3 wrElem
  have hbA : Below w.heap.size w wA := hwA ▸ below_al w _
  have hcA : wA.cell? ⟨w.heap.size, 0, none⟩ = some (.func (.func 122) #[] #[]) := by rw [← hwA]; exact cell_of_row _ _ 0 _ _ _ (heap_alloc_new w _)
  have hb : Below (w.heap.size + 1) wA (wA.alloc (.map #[] 0)) := (Below.refl _ _).alloc (by omega) _
  rw [hsA] at hown
  have HO := Lib.hid hown
  have HBA := Lib.hid hbA
  have HC := Lib.hid hcA
  have HZ : Hid (w.heap.size < w.heap.size + 1) := Lib.hid (Nat.lt_succ_self _)
  have HW := Lib.hid hwA
  have c0 := (hb.cell (p := ⟨w.heap.size, 0, none⟩) HZ.out).trans HC.out
  clear hown hbA hcA
  go_enter Tryz.func82, Tryz.ntmps82
  go_upto_region 2 with (fail)
  clear hwA
  go_wp2_with (first
    | (refine wpList_insert_own (H := Unit) _ rfl _ (.const (.int .i64 1)) _ 125 rfl 3 124 keyI8 Tryz.underlying125 wrElem (w.heap.size + 1) 0 _ rfl HO.out (by decide) (.int .i64 1) (.agg #[.func (.func 122) #[] #[]]) (.int .i64 1) rfl rfl (kI8 1 (by decide) (by decide)) (wrN 122) [] (wrElem_of _) ?_; intro w1 ho1 hg1; have HO1 := Lib.hid ho1; have hb1 := hb.grown hg1 (by simp; omega) (fun j hj => by cases hj; exact Nat.le_refl _); have c1 := (hb1.cell (p := ⟨w.heap.size, 0, none⟩) HZ.out).trans HC.out; clear ho1 hg1)
    | (refine wpList_insert_own (H := Unit) _ rfl _ (.const (.int .i64 2)) _ 125 rfl 3 124 keyI8 Tryz.underlying125 wrElem (w.heap.size + 1) 1 _ rfl HO1.out (by decide) (.int .i64 2) (.agg #[.func (.func 122) #[] #[]]) (.int .i64 2) rfl rfl (kI8 2 (by decide) (by decide)) (wrN 122) [] (wrElem_of _) ?_; intro w2 ho2 hg2; have HO2 := Lib.hid ho2; have hb2 := hb1.grown hg2 (by have := hb1.size; omega) (fun j hj => by cases hj; exact Nat.le_refl _); have c2 := (hb2.cell (p := ⟨w.heap.size, 0, none⟩) HZ.out).trans HC.out; clear ho2 hg2)
    | (refine wpList_insert_own (H := Unit) _ rfl _ (.const (.int .i64 3)) _ 125 rfl 3 124 keyI8 Tryz.underlying125 wrElem (w.heap.size + 1) 2 _ rfl HO2.out (by decide) (.int .i64 3) (.agg #[.func (.func 122) #[] #[]]) (.int .i64 3) rfl rfl (kI8 3 (by decide) (by decide)) (wrN 122) [] (wrElem_of _) ?_; intro w3 ho3 hg3; have HO3 := Lib.hid ho3; have hb3 := hb2.grown hg3 (by have := hb2.size; omega) (fun j hj => by cases hj; exact Nat.le_refl _); have c3 := (hb3.cell (p := ⟨w.heap.size, 0, none⟩) HZ.out).trans HC.out; clear ho3 hg3)
    | (refine wpList_insert_own (H := Unit) _ rfl _ (.const (.int .i64 4)) _ 125 rfl 3 124 keyI8 Tryz.underlying125 wrElem (w.heap.size + 1) 3 _ rfl HO3.out (by decide) (.int .i64 4) (.agg #[.func (.func 122) #[] #[]]) (.int .i64 4) rfl rfl (kI8 4 (by decide) (by decide)) (wrN 122) [] (wrElem_of _) ?_; intro w4 ho4 hg4; have HO4 := Lib.hid ho4; have hb4 := hb3.grown hg4 (by have := hb3.size; omega) (fun j hj => by cases hj; exact Nat.le_refl _); have c4 := (hb4.cell (p := ⟨w.heap.size, 0, none⟩) HZ.out).trans HC.out; clear ho4 hg4)
    | (refine wpList_insert_own (H := Unit) _ rfl _ (.const (.int .i64 5)) _ 125 rfl 3 124 keyI8 Tryz.underlying125 wrElem (w.heap.size + 1) 4 _ rfl HO4.out (by decide) (.int .i64 5) (.agg #[.func (.func 123) #[] #[]]) (.int .i64 5) rfl rfl (kI8 5 (by decide) (by decide)) (wrN 123) [] (wrElem_of _) ?_; intro w5 ho5 hg5; have HO5 := Lib.hid ho5; have hb5 := hb4.grown hg5 (by have := hb4.size; omega) (fun j hj => by cases hj; exact Nat.le_refl _); have c5 := (hb5.cell (p := ⟨w.heap.size, 0, none⟩) HZ.out).trans HC.out; clear ho5 hg5)
    | (refine wpList_insert_own (H := Unit) _ rfl _ (.const (.int .i64 6)) _ 125 rfl 3 124 keyI8 Tryz.underlying125 wrElem (w.heap.size + 1) 5 _ rfl HO5.out (by decide) (.int .i64 6) (.agg #[.func (.func 124) #[] #[]]) (.int .i64 6) rfl rfl (kI8 6 (by decide) (by decide)) (wrN 124) [] (wrElem_of _) ?_; intro w6 ho6 hg6; have HO6 := Lib.hid ho6; have hb6 := hb5.grown hg6 (by have := hb5.size; omega) (fun j hj => by cases hj; exact Nat.le_refl _); have c6 := (hb6.cell (p := ⟨w.heap.size, 0, none⟩) HZ.out).trans HC.out; clear ho6 hg6)
    | (refine wpList_insert_own (H := Unit) _ rfl _ (.const (.int .i64 7)) _ 125 rfl 3 124 keyI8 Tryz.underlying125 wrElem (w.heap.size + 1) 6 _ rfl HO6.out (by decide) (.int .i64 7) (.agg #[.func (.func 125) #[] #[]]) (.int .i64 7) rfl rfl (kI8 7 (by decide) (by decide)) (wrN 125) [] (wrElem_of _) ?_; intro w7 ho7 hg7; have HO7 := Lib.hid ho7; have hb7 := hb6.grown hg7 (by have := hb6.size; omega) (fun j hj => by cases hj; exact Nat.le_refl _); have c7 := (hb7.cell (p := ⟨w.heap.size, 0, none⟩) HZ.out).trans HC.out; clear ho7 hg7)
    | (refine wpList_insert_own (H := Unit) _ rfl _ (.const (.int .i64 8)) _ 125 rfl 3 124 keyI8 Tryz.underlying125 wrElem (w.heap.size + 1) 7 _ rfl HO7.out (by decide) (.int .i64 8) (.agg #[.func (.func 126) #[] #[]]) (.int .i64 8) rfl rfl (kI8 8 (by decide) (by decide)) (wrN 126) [] (wrElem_of _) ?_; intro w8 ho8 hg8; have HO8 := Lib.hid ho8; have hb8 := hb7.grown hg8 (by have := hb7.size; omega) (fun j hj => by cases hj; exact Nat.le_refl _); have c8 := (hb8.cell (p := ⟨w.heap.size, 0, none⟩) HZ.out).trans HC.out; clear ho8 hg8))
  go_ret
  exact ⟨rfl, HO8.out, (HBA.out).trans (hb8.mono (Nat.le_succ _))⟩
end Go.Proofs.YtpgfnlhfciacoaaGreatDoor
