import Derived.Test.YtpgfnlhfciacoaaGreatDoorPGk
import Derived.Shelf.Small.Wraps
import Derived.Stop.RegionWithIn
set_option maxRecDepth 100000
set_option maxHeartbeats 4000000
open Go.Lib renaming hid → Hi
namespace Go.Proofs.YtpgfnlhfciacoaaGreatDoor
open Go.RowKit
def cutA (l : List UInt8) : List UInt8 := Lib.trimPrefix l [40]
def cutB (l : List UInt8) : List UInt8 := Lib.trimSuffix (cutA l) [41]
def hasA (l : List UInt8) : Bool := Lib.hasPrefix l [40]
def hasB (l : List UInt8) : Bool := Lib.hasSuffix (cutA l) [41]
theorem cutA_len (l : List UInt8) : (cutA l).length ≤ l.length := by
 unfold cutA Lib.trimPrefix
 split
 · rw [List.length_drop]; omega
 · exact Nat.le_refl _
theorem cutB_len (l : List UInt8) : (cutB l).length ≤ l.length := by
 have := cutA_len l
 unfold cutB Lib.trimSuffix
 split
 · rw [List.length_take]; omega
 · exact this
theorem cut_all {l : List UInt8} (hA : hasA l = true) (hB : hasB l = true) : l = 40 :: (cutB l ++ [41]) := by
 have h1 : [40] <+: l := by rw [← List.isPrefixOf_iff_prefix]; exact hA
 obtain ⟨r, rfl⟩ := h1
 have e1 : cutA ([40] ++ r) = r := by unfold cutA Lib.trimPrefix; unfold hasA at hA; rw [if_pos hA]; rfl
 unfold hasB at hB
 unfold cutB
 rw [e1] at hB ⊢
 have h2 : [41] <:+ r := by rw [← List.isSuffixOf_iff_suffix]; exact hB
 unfold Lib.trimSuffix
 rw [if_pos hB]
 obtain ⟨t, rfl⟩ := h2
 simp
theorem cut_no {l : List UInt8} (h : hasA l = false ∨ hasB l = false) : parseF l = none := by
 have key : ∀ t, l ≠ 40 :: (t ++ [41]) := by
  rintro t rfl
  have hA : hasA (40 :: (t ++ [41])) = true := by
   unfold hasA Lib.hasPrefix
   rw [List.isPrefixOf_iff_prefix]
   exact ⟨_, rfl⟩
  have e1 : cutA (40 :: (t ++ [41])) = t ++ [41] := by unfold cutA Lib.trimPrefix; unfold hasA at hA; rw [if_pos hA]; rfl
  have hB : hasB (40 :: (t ++ [41])) = true := by
   unfold hasB
   rw [e1]
   unfold Lib.hasSuffix
   rw [List.isSuffixOf_iff_suffix]
   exact ⟨_, rfl⟩
  rcases h with h | h
  · rw [hA] at h; cases h
  · rw [hB] at h; cases h
 unfold parseF
 rw [if_neg (show ¬ l = [40, 41] from key []), if_neg]
 rintro ⟨h2, h0, h1⟩
 cases l with
 | nil => simp at h2
 | cons a r =>
   obtain rfl : a = 40 := by simpa using h0
   have hr : r ≠ [] := by rintro rfl; simp at h2
   have hlast : r.getLast hr = 41 := by
    have e : (40 :: r)[(40 :: r).length - 1]? = r[r.length - 1]? := by
     rw [List.length_cons, Nat.add_sub_cancel]
     obtain ⟨n, hn⟩ : ∃ n, r.length = n + 1 := ⟨r.length - 1, by have := List.length_pos_iff.2 hr; omega⟩
     rw [hn, List.getElem?_cons_succ]
     rfl
    rw [e, ← List.getLast?_eq_getElem?, List.getLast?_eq_some_getLast hr] at h1
    exact Option.some.inj h1
   exact key (r.dropLast) (by rw [← hlast, List.dropLast_concat_getLast])
theorem cut_empty {l : List UInt8} (hA : hasA l = true) (hB : hasB l = true) (h : cutB l = []) : parseF l = some 0 := by
 have := cut_all hA hB
 rw [h] at this
 rw [this]
 rfl
theorem cut_some {l : List UInt8} (hA : hasA l = true) (hB : hasB l = true) (h : cutB l ≠ []) : parseF l = namesO (YQ 32 (cutB l)) := by
 have e := cut_all hA hB
 generalize cutB l = t at *
 subst e
 have hl : (40 :: (t ++ [41])).length = t.length + 2 := by simp
 unfold parseF
 rw [if_neg, if_pos]
 · congr 2
   unfold innerL
   rw [hl]
   simp
 · refine ⟨by rw [hl]; omega, rfl, ?_⟩
   rw [hl, show t.length + 2 - 1 = t.length + 1 by omega, List.getElem?_cons_succ]
   simp
 · intro e
   injection e with _ e
   cases t with
   | nil => exact h rfl
   | cons a r => simp at e
section
open Go.Maps Go.Shelf
attribute [local go_sem] Oper.semAt_some
theorem look_flag {w : World} {b : Nat} {D : DataW Unit} (hown : w.ownsMap Tryz.prog 9 (plainElem Tryz.prog 23) b 5 D) (hD : FlagsD D) (u : List UInt8) (hu : u.length ≤ 1000000000) :
 (Instr.lookup 216 (.map (some b)) (.string ⟨u.toArray⟩) true).run Tryz.prog w = .ok (.tuple #[.int .u8 (flagU u : Nat), .bool (decide (flagU u ≠ 0))]) w := by
 obtain ⟨v, ps, hrun, hv⟩ := hown.look_ok keyS Tryz.underlying216 (zeroF w) (plainElem_int (H := Unit) Tryz.underlying23 (a := 0) (by decide)) (kS u hu)
 obtain ⟨c, rfl, hc, _⟩ := plainElem_int_inv Tryz.underlying23 hv
 simp only [Prod.mk.injEq] at hc
 rw [hrun, hD.has, hD.at hc.1]
theorem mk_sizeF (l : List UInt8) : (ByteArray.mk l.toArray).size = l.length := by show l.toArray.size = _; simp
theorem len_size (s : ByteArray) : s.data.toList.length = s.size := by rw [Array.length_toList]; rfl
theorem parse_no (s : ByteArray) (hs : s.size ≤ 100000000) (w : World) (hn : hasA s.data.toList = false ∨ hasB s.data.toList = false) :
 Calls Tryz.prog 181 #[.string s] w fun e w' => e = .returned (.tuple #[.int .u8 0, .bool false]) ∧ Below w.heap.size w w' := by
 have hcl := cutA_len s.data.toList
 have C1 := Hi (fun w1 => Any.strings_CutPrefix Tryz.lays103 s ⟨#[40]⟩ w1)
 have C2 := Hi (fun w1 => Any.strings_CutSuffix Tryz.lays104 ⟨(cutA s.data.toList).toArray⟩ ⟨#[41]⟩ w1 (by rw [mk_sizeF]; have := len_size s; omega))
 have E1 : Lib.trimPrefix s.data.toList (ByteArray.mk #[40]).data.toList = cutA s.data.toList := rfl
 have E2 : Lib.hasPrefix s.data.toList (ByteArray.mk #[40]).data.toList = hasA s.data.toList := rfl
 have E3 : Lib.trimSuffix (ByteArray.mk (cutA s.data.toList).toArray).data.toList (ByteArray.mk #[41]).data.toList = cutB s.data.toList := rfl
 have E4 : Lib.hasSuffix (ByteArray.mk (cutA s.data.toList).toArray).data.toList (ByteArray.mk #[41]).data.toList = hasB s.data.toList := rfl
 rw [E1, E2] at C1
 rw [E3, E4] at C2
 clear E1 E2 E3 E4 hcl
 generalize hasA s.data.toList = a at *
 generalize hasB s.data.toList = b at *
 generalize cutA s.data.toList = l1 at *
 generalize cutB s.data.toList = l2 at *
 cases a
 case false =>
  clear hn
  go_enter Tryz.func181, Tryz.ntmps181
  go_wp2_with fail
  refine (C1.out _).mono ?_
  rintro e w1 ⟨rfl, rfl⟩
  go_wp2_with fail
  refine (C2.out _).mono ?_
  rintro e w1 ⟨rfl, rfl⟩
  go_wp2_with fail
  exact bodyPost_ret (v := .tuple #[.int .u8 0, .bool false]) (by simp [results, Tryz.f181, go_sem]) rfl ⟨rfl, by repeat (first | exact Below.refl _ _ | refine Below.alloc ?_ (by simp <;> omega) _ | refine Below.setCell ?_ (by simp <;> omega) _)⟩
 case true =>
  obtain rfl : b = false := by simpa using hn
  clear hn
  go_enter Tryz.func181, Tryz.ntmps181
  go_wp2_with fail
  refine (C1.out _).mono ?_
  rintro e w1 ⟨rfl, rfl⟩
  go_wp2_with fail
  refine (C2.out _).mono ?_
  rintro e w1 ⟨rfl, rfl⟩
  go_wp2_with fail
  exact bodyPost_ret (v := .tuple #[.int .u8 0, .bool false]) (by simp [results, Tryz.f181, go_sem]) rfl ⟨rfl, by repeat (first | exact Below.refl _ _ | refine Below.alloc ?_ (by simp <;> omega) _ | refine Below.setCell ?_ (by simp <;> omega) _)⟩
theorem parse_empty (s : ByteArray) (hs : s.size ≤ 100000000) (w : World) (hA : hasA s.data.toList = true) (hB : hasB s.data.toList = true) (hE : cutB s.data.toList = []) :
 Calls Tryz.prog 181 #[.string s] w fun e w' => e = .returned (.tuple #[.int .u8 0, .bool true]) ∧ Below w.heap.size w w' := by
 have hcl := cutA_len s.data.toList
 have C1 := Hi (fun w1 => Any.strings_CutPrefix Tryz.lays103 s ⟨#[40]⟩ w1)
 have C2 := Hi (fun w1 => Any.strings_CutSuffix Tryz.lays104 ⟨(cutA s.data.toList).toArray⟩ ⟨#[41]⟩ w1 (by rw [mk_sizeF]; have := len_size s; omega))
 have E1 : Lib.trimPrefix s.data.toList (ByteArray.mk #[40]).data.toList = cutA s.data.toList := rfl
 have E2 : Lib.hasPrefix s.data.toList (ByteArray.mk #[40]).data.toList = hasA s.data.toList := rfl
 have E3 : Lib.trimSuffix (ByteArray.mk (cutA s.data.toList).toArray).data.toList (ByteArray.mk #[41]).data.toList = cutB s.data.toList := rfl
 have E4 : Lib.hasSuffix (ByteArray.mk (cutA s.data.toList).toArray).data.toList (ByteArray.mk #[41]).data.toList = hasB s.data.toList := rfl
 rw [E1, E2, hA] at C1
 rw [E3, E4, hB, hE] at C2
 clear E1 E2 E3 E4 hcl hA hB hE
 generalize cutA s.data.toList = l1 at *
 go_enter Tryz.func181, Tryz.ntmps181
 go_wp2_with fail
 refine (C1.out _).mono ?_
 rintro e w1 ⟨rfl, rfl⟩
 go_wp2_with fail
 refine (C2.out _).mono ?_
 rintro e w1 ⟨rfl, rfl⟩
 go_wp2_with fail
 exact bodyPost_ret (v := .tuple #[.int .u8 0, .bool true]) (by simp [results, Tryz.f181, go_sem]) rfl ⟨rfl, by repeat (first | exact Below.refl _ _ | refine Below.alloc ?_ (by simp <;> omega) _ | refine Below.setCell ?_ (by simp <;> omega) _)⟩
end
section
open Go.Maps Go.Shelf
attribute [local go_sem] Oper.semAt_some
def dS (p : SB) : List UInt8 := p.1.data.toList
def FI (n0 s bm : Nat) (D : DataW Unit) (pre : List SB) (W : World) : Prop :=
 Boxed W n0 23 (.int .u8 0) ∧ Boxed W (n0 + 1) 4 (.bool false) ∧ (∃ u, Boxed W (s + 2) 9 u) ∧ Boxed W s 216 (.map (some bm)) ∧
  Boxed W (s + 1) 23 (.int .u8 (orF (pre.map dS) : Nat)) ∧ W.ownsMap Tryz.prog 9 (plainElem Tryz.prog 23) bm 5 D ∧ allF (pre.map dS) = true
def FX (n0 : Nat) (c : Code) (pre : List SB) (W : World) : Prop :=
 c = .ret ∧ (∃ p ∈ pre, flagL (dS p) = 0) ∧ Boxed W n0 23 (.int .u8 0) ∧ Boxed W (n0 + 1) 4 (.bool false)
theorem fi_own (n0 s bm B : Nat) (hB : bm < B) (D : DataW Unit) : OwnFrom B (FI n0 s bm D) := by
 rintro pre X Y row ⟨h1, h2, ⟨u, h3⟩, h4, h5, h6, h7⟩ hg hr
 have hr' : ∀ r, row = some r → ∃ o : Obj, X.heap[r]? = some o ∧ o.isCells = false := fun r e => (hr r e).2
 exact ⟨ZX h1 hg hr', ZX h2 hg hr', ⟨u, ZX h3 hg hr'⟩, ZX h4 hg hr', ZX h5 hg hr', h6.kept hg (fun e => by have := (hr _ e.symm).1; omega), h7⟩
theorem fx_own (n0 : Nat) (c : Code) : Own (FX n0 c) := by
 rintro pre X Y row ⟨h0, h00, h1, h2⟩ hg hr
 exact ⟨h0, h00, ZX h1 hg hr, ZX h2 hg hr⟩
theorem map_ne_box {w : World} {k : TypeId} {R : Value → Option (DataW Unit × List MemPlace)} {b n : Nat} {D : DataW Unit} (hm : w.ownsMap Tryz.prog k R b n D) {B : Nat} {t : TypeId} {v : Value} (h : Boxed w B t v) : some b ≠ some B := by
 intro e
 injection e with e
 subst e
 obtain ⟨es, clock, hb, _⟩ := hm
 rw [show w.heap[b]? = _ from h] at hb
 cases hb
theorem fi_writes (n0 s bm : Nat) (hn : n0 + 1 < s) (D : DataW Unit) (pre : List SB) (A B : World) (h : FI n0 s bm D pre A) (hw : WritesS (s + 2) A B) : FI n0 s bm D pre B := by
 obtain ⟨h1, h2, ⟨u, h3⟩, h4, h5, h6, h7⟩ := h
 obtain ⟨_, x, _, rfl⟩ := hw
 have hg := grownBy_setCell' A (s + 2) x
 exact ⟨h1.kept hg (by simp; omega), h2.kept hg (by simp; omega), ⟨x, h3.set x⟩, h4.kept hg (by simp), h5.kept hg (by simp), h6.kept hg (map_ne_box h6 h3), h7⟩
theorem belowW {n0 s : Nat} (hn : n0 ≤ s) {w A B : World} (h : Below n0 w A) (hw : WritesS (s + 2) A B) : Below n0 w B := by
 obtain ⟨_, x, _, rfl⟩ := hw
 exact h.setCell (p := ⟨s + 2, 0, none⟩) (by simp; omega) _
theorem parse_loop (s : ByteArray) (hs : s.size ≤ 100000000) (w : World) (hA : hasA s.data.toList = true) (hB : hasB s.data.toList = true) (hE : cutB s.data.toList ≠ []) :
 Calls Tryz.prog 181 #[.string s] w fun e w' => e = .returned (.tuple #[.int .u8 (((namesO (YQ 32 (cutB s.data.toList))).getD 0 : Nat) : Int), .bool (namesO (YQ 32 (cutB s.data.toList))).isSome]) ∧ Below w.heap.size w w' := by
 have hcl := cutA_len s.data.toList
 have hcl2 := cutB_len s.data.toList
 have C1 := Hi (fun w1 => Any.strings_CutPrefix Tryz.lays103 s ⟨#[40]⟩ w1)
 have C2 := Hi (fun w1 => Any.strings_CutSuffix Tryz.lays104 ⟨(cutA s.data.toList).toArray⟩ ⟨#[41]⟩ w1 (by rw [mk_sizeF]; have := len_size s; omega))
 have E1 : Lib.trimPrefix s.data.toList (ByteArray.mk #[40]).data.toList = cutA s.data.toList := rfl
 have E2 : Lib.hasPrefix s.data.toList (ByteArray.mk #[40]).data.toList = hasA s.data.toList := rfl
 have E3 : Lib.trimSuffix (ByteArray.mk (cutA s.data.toList).toArray).data.toList (ByteArray.mk #[41]).data.toList = cutB s.data.toList := rfl
 have E4 : Lib.hasSuffix (ByteArray.mk (cutA s.data.toList).toArray).data.toList (ByteArray.mk #[41]).data.toList = hasB s.data.toList := rfl
 rw [E1, E2, hA] at C1
 rw [E3, E4, hB] at C2
 have hll := len_size s
 clear E1 E2 E3 E4 hA hB
 generalize cutA s.data.toList = l1 at *
 generalize cutB s.data.toList = l2 at *
 obtain ⟨pp, hpp⟩ : ∃ pp, namesO (YQ 32 l2) = pp := ⟨_, rfl⟩
 rw [hpp]
 have HPP := Hi hpp
 have hl2 : l2.length ≤ 100000000 := by omega
 have he1 : l2.isEmpty = false := by simpa using hE
 have F := Hi (fun w1 => flags_any w1)
 clear hpp hE hcl hcl2 hll
 refine (callsIn_wide (n := 3)).1 ?_
 refine callsIn_of_wp_marks Tryz.func181 rfl trivial ?_ rfl
 simp only [Tryz.ntmps181, List.size_toArray, List.length_cons, List.length_nil, Nat.reduceAdd, Nat.reduceSub, Array.replicate_succ, Array.replicate_zero, List.push_toArray, List.append_toArray, List.nil_append, List.cons_append]
 gi_wp2_with fail
 refine ⟨trivial, ?_⟩
 refine (callsIn_wide.2 (C1.out _)).mono ?_
 rintro e w1 ⟨rfl, rfl⟩
 gi_wp2_with fail
 refine ⟨trivial, ?_⟩
 refine (callsIn_wide.2 (C2.out _)).mono ?_
 rintro e w1 ⟨rfl, rfl⟩
 gi_wp2_with fail
 refine ⟨trivial, ?_⟩
 refine (callsIn_wide.2 (F.out _)).mono ?_
 rintro e w1 ⟨bm, D, rfl, hm, hD, hbm, hb⟩
 have B0 := Boxed.behind ((Boxed.new w 23 (.int .u8 0)).alloc (.cells #[.bool false] 4)) hb
 have B1 := Boxed.behind (Boxed.new (w.alloc (.cells #[.int .u8 0] 23)) 4 (.bool false)) hb
 have hb0 : Below w.heap.size w w1 := below_step (((Below.refl _ _).alloc (Nat.le_refl _) _).alloc (by simp) _) hb (by simp; omega)
 have hbm2 : w.heap.size + 2 ≤ bm := by simp at hbm; omega
 have hbml := hm.lt
 rw [show (w.alloc (.cells #[.int .u8 0] 23)).heap.size = w.heap.size + 1 by simp] at B1
 have HM := Hi hm
 have HB0 := Hi B0
 have HB1 := Hi B1
 clear hm B0 B1 hb hbm
 gi_wp2_with fail
 refine ⟨trivial, ?_⟩
 refine (callsIn_wide.2 (SplitSeq_any _ _ _)).mono ?_
 rintro e w2 ⟨rfl, rfl⟩
 gi_wp2_with fail
 have HBw : Below w.heap.size w (((((w1.alloc (.cells #[.map (some bm)] 216)).alloc (.cells #[.int .u8 0] 23)).alloc (.cells #[.string ⟨l2.toArray⟩] 9)).alloc (.cells #[.string ⟨#[32]⟩] 9)).alloc (.cells #[.int .i64 0] 3)) := by
  have := hb0.size
  repeat (first | exact hb0 | refine Below.alloc ?_ (by simp <;> omega) _ | refine Below.alloc ?_ (by omega) _)
 have c0 := ((((HB0.out.alloc (.cells #[.map (some bm)] 216)).alloc (.cells #[.int .u8 0] 23)).alloc (.cells #[.string ⟨l2.toArray⟩] 9)).alloc (.cells #[.string ⟨#[32]⟩] 9)).alloc (.cells #[.int .i64 0] 3)
 have c1 := ((((HB1.out.alloc (.cells #[.map (some bm)] 216)).alloc (.cells #[.int .u8 0] 23)).alloc (.cells #[.string ⟨l2.toArray⟩] 9)).alloc (.cells #[.string ⟨#[32]⟩] 9)).alloc (.cells #[.int .i64 0] 3)
 have cm := ((((HM.out.alloc (.cells #[.map (some bm)] 216)).alloc (.cells #[.int .u8 0] 23)).alloc (.cells #[.string ⟨l2.toArray⟩] 9)).alloc (.cells #[.string ⟨#[32]⟩] 9)).alloc (.cells #[.int .i64 0] 3)
 have cA := ((((Boxed.new w1 216 (.map (some bm))).alloc (.cells #[.int .u8 0] 23)).alloc (.cells #[.string ⟨l2.toArray⟩] 9)).alloc (.cells #[.string ⟨#[32]⟩] 9)).alloc (.cells #[.int .i64 0] 3)
 have cB := (((Boxed.new (w1.alloc (.cells #[.map (some bm)] 216)) 23 (.int .u8 0)).alloc (.cells #[.string ⟨l2.toArray⟩] 9)).alloc (.cells #[.string ⟨#[32]⟩] 9)).alloc (.cells #[.int .i64 0] 3)
 have cC := ((Boxed.new ((w1.alloc (.cells #[.map (some bm)] 216)).alloc (.cells #[.int .u8 0] 23)) 9 (.string ⟨l2.toArray⟩)).alloc (.cells #[.string ⟨#[32]⟩] 9)).alloc (.cells #[.int .i64 0] 3)
 have cD := (Boxed.new (((w1.alloc (.cells #[.map (some bm)] 216)).alloc (.cells #[.int .u8 0] 23)).alloc (.cells #[.string ⟨l2.toArray⟩] 9)) 9 (.string ⟨#[32]⟩)).alloc (.cells #[.int .i64 0] 3)
 have cE := Boxed.new ((((w1.alloc (.cells #[.map (some bm)] 216)).alloc (.cells #[.int .u8 0] 23)).alloc (.cells #[.string ⟨l2.toArray⟩] 9)).alloc (.cells #[.string ⟨#[32]⟩] 9)) 3 (.int .i64 0)
 simp only [World.size_alloc, Nat.add_assoc, Nat.reduceAdd] at cB cC cD cE
 have hsz : w1.heap.size + 5 ≤ (((((w1.alloc (.cells #[.map (some bm)] 216)).alloc (.cells #[.int .u8 0] 23)).alloc (.cells #[.string ⟨l2.toArray⟩] 9)).alloc (.cells #[.string ⟨#[32]⟩] 9)).alloc (.cells #[.int .i64 0] 3)).heap.size := by simp
 have hn01 := hb0.size
 clear HB0 HB1 HM hb0
 generalize (((((w1.alloc (.cells #[.map (some bm)] 216)).alloc (.cells #[.int .u8 0] 23)).alloc (.cells #[.string ⟨l2.toArray⟩] 9)).alloc (.cells #[.string ⟨#[32]⟩] 9)).alloc (.cells #[.int .i64 0] 3)) = W0 at *
 generalize w1.heap.size = n at *
 have HC := Hi cC
 have hsl := splitL_len 32 l2
 have hl2s : (⟨l2.toArray⟩ : ByteArray).size ≤ 1000000000 := by rw [mk_sizeF]; omega
 refine wpIn_rangeFunc_it rfl (by omega) (gf := 231) (lb := #[.pointer (some ⟨n + 3, 0, none⟩), .pointer (some ⟨n + 2, 0, none⟩), .pointer (some ⟨n + 4, 0, none⟩)]) rfl trivial (enters_of Tryz.func231 (by kernel_rfl) rfl)
  (split_does 2 (by omega) (n + 3) (n + 2) (n + 4) 32 ⟨l2.toArray⟩ hl2s W0 cD cC cE (by omega)) (fun h k => keepsS_t h k) (fun W l o o' h1 h2 h3 h4 => ⟨keepsT_b (w := W0) W l o o' h1 h2 h3 h4, keepsT_b (w := W0) W l o o' h1 h2 h3 h4⟩)
  (fun X Y i o hw ho hc => by
   obtain ⟨_, u, hbx, rfl⟩ := hw
   by_cases hi3 : i = n + 2
   · subst hi3
     rw [show X.heap[n + 2]? = _ from hbx] at ho
     cases ho
     simp [Obj.isCells] at hc
   · exact (Below.heap_setCell X ⟨n + 2, 0, none⟩ u i hi3).trans ho)
  (Below.refl _ _) (fun _ => rfl)
  (fun pre W => FI w.heap.size n bm D pre W ∧ Below w.heap.size w W)
  (fun c pre W => FX w.heap.size c pre W ∧ Below w.heap.size w W)
  (OwnFrom.and (fi_own _ _ _ _ (by omega) _) (ownFrom_below (Nat.le_refl _) (by omega)))
  (fun c => OwnFrom.and (Own.from (fx_own _ c) _) (ownFrom_below (Nat.le_refl _) (by omega)))
  (fun s A B h hw => ⟨fi_writes _ _ _ (by omega) _ s A B h.1 hw, belowW (by omega) h.2 hw⟩)
  ⟨⟨c0, c1, ⟨_, cC⟩, cA, cB, cm, rfl⟩, HBw⟩
  ?a1 ?assign ?body ?done ?stop
 case assign =>
  intro l x W K hK
  gi_wp2
  exact hK
 case body =>
  rintro l pre x W ⟨⟨h1, h2, ⟨u3, h3⟩, h4, h5, h6, h7⟩, hB⟩ hlt
  have hd : 1 ≤ 3 - 1 - 1 := by omega
  have hmx : Tryz.prog.follows .mixedOrders = true := by kernel_rfl
  have U := Hi (fun w1 => upper_any x.1 x.2 w1)
  have hul : (upL x.1.data.toList).length ≤ 1000000000 := by rw [upL_length, len_size]; exact x.2
  have LK := Hi (fun w3 (hb : Below W.drew.heap.size W.drew w3) => look_flag (map_below h6.drew hb) hD (upL x.1.data.toList) hul)
  have hfx : flagU (upL x.1.data.toList) = flagL (dS x) := rfl
  rw [hfx] at LK
  have HFX := Hi hfx
  clear hfx
  generalize upL x.1.data.toList = ux at *
  have hc4 := h4.cell
  have H1 := Hi h1
  have H2 := Hi h2
  have H3 := Hi h3
  have H4 := Hi h4
  have H5 := Hi h5
  have H6 := Hi h6
  have H7 := Hi h7
  have h4l : n < W.heap.size := h4.lt
  clear h1 h2 h3 h4 h5 h6 h7 hD
  by_cases h0 : flagL (dS x) = 0
  · rw [h0] at LK
    gi_wp2
    gi_region_with (refine ⟨trivial, ?_⟩; gi_at_call 69; refine (CallsIn.inRound l (callsIn_wide.2 (U.out _))).mono ?_; rintro e w3 ⟨rfl, hb3⟩; have hlk := LK.out w3 hb3; have hc4' : w3.cell? ⟨n, 0, none⟩ = some (.map (some bm)) := (hb3.cell (p := ⟨n, 0, none⟩) h4l).trans hc4)
    all_goals
     have b1 := Boxed.behind (show Boxed W.drew w.heap.size 23 (.int .u8 0) from H1.out) hb3
     have b2 := Boxed.behind (show Boxed W.drew (w.heap.size + 1) 4 (.bool false) from H2.out) hb3
     have hB1 : Below w.heap.size w w3 := hB.drew.trans (hb3.mono hB.drew.size)
     have hKO := (KeepsOthers.drew W).trans (keepsO_below hb3)
     have k1 := b1.cell
     have f1 := b1.frozen
     have k2 := b2.cell
     have f2 := b2.frozen
     clear LK HC cA cB cC cD cE cm c0 c1 hlk hc4' hc4 hb3
     gi_wp2_with fail
     exact ⟨(hKO.trans ((KeepsOthers.setCell _ _ _).trans (KeepsOthers.setCell _ _ _))).from _, ⟨rfl, ⟨x, by simp, h0⟩, (b1.set _).kept (grownBy_setCell' _ _ _) (by simp), (b2.kept (grownBy_setCell' _ _ _) (by simp)).set _⟩, (hB1.setCell (p := ⟨w.heap.size, 0, none⟩) (Nat.le_refl _) _).setCell (p := ⟨w.heap.size + 1, 0, none⟩) (by simp) _⟩
  · have hfl := flagL_lt (dS x)
    have hol := orF_lt (pre.map dS)
    have HO := Hi (orF_snoc (pre.map dS) (dS x))
    have HA := Hi (allF_snoc (pre.map dS) (dS x))
    have hdec : decide (flagL (dS x) ≠ 0) = true := by simpa using h0
    rw [hdec] at LK
    have HG := Hi (show (flagL (dS x) != 0) = true by simpa using h0)
    generalize flagL (dS x) = g at *
    generalize orF (pre.map dS) = o at *
    have e1 := u8_or_nat o g (by omega) (by omega)
    clear hdec h0
    gi_wp2
    gi_region_with (refine ⟨trivial, ?_⟩; gi_at_call 69; refine (CallsIn.inRound l (callsIn_wide.2 (U.out _))).mono ?_; rintro e w3 ⟨rfl, hb3⟩; have hlk := LK.out w3 hb3; have hc4' : w3.cell? ⟨n, 0, none⟩ = some (.map (some bm)) := (hb3.cell (p := ⟨n, 0, none⟩) h4l).trans hc4)
    all_goals
     have b1 := Boxed.behind (show Boxed W.drew w.heap.size 23 (.int .u8 0) from H1.out) hb3
     have b2 := Boxed.behind (show Boxed W.drew (w.heap.size + 1) 4 (.bool false) from H2.out) hb3
     have b3 := Boxed.behind (show Boxed W.drew (n + 2) 9 u3 from H3.out) hb3
     have b4 := Boxed.behind (show Boxed W.drew n 216 (.map (some bm)) from H4.out) hb3
     have b5 := Boxed.behind (show Boxed W.drew (n + 1) 23 (.int .u8 (o : Int)) from H5.out) hb3
     have hB1 : Below w.heap.size w w3 := hB.drew.trans (hb3.mono hB.drew.size)
     have hKO := (KeepsOthers.drew W).trans (keepsO_below hb3)
     have hKS : ∀ T, T ≠ 23 → YR T W (w3.setCell ⟨n + 1, 0, none⟩ (.int .u8 ((o ||| g : Nat) : Int))) := fun T hT => ((YR.refl T W.drew).below hb3).set_ b5 hT.symm _
     have hM := Hi (map_below H6.out.drew hb3)
     have k5 := b5.cell
     have f5 := b5.frozen
     clear LK HC cA cB cC cD cE cm c0 c1 hlk hc4' hc4 hb3
     gi_wp2_with fail
     exact ⟨(hKO.trans (KeepsOthers.setCell _ _ _)).from _, ⟨hKS _ (by decide), hKS _ (by decide)⟩, ⟨b1.kept (grownBy_setCell' _ _ _) (by simp; omega), b2.kept (grownBy_setCell' _ _ _) (by simp; omega), ⟨_, b3.kept (grownBy_setCell' _ _ _) (by simp)⟩, b4.kept (grownBy_setCell' _ _ _) (by simp),
      by rw [List.map_append, List.map_cons, List.map_nil, HO.out]; exact b5.set _, hM.out.kept (grownBy_setCell' _ _ _) (map_ne_box hM.out b5), by rw [List.map_append, List.map_cons, List.map_nil, HA.out, H7.out, HG.out]; rfl⟩, hB1.setCell (p := ⟨n + 1, 0, none⟩) (by simp; omega) _⟩
 case done =>
  rintro E ys W hD' hys ⟨⟨h1, h2, -, h4, h5, h6, h7⟩, hB⟩ hK
  have hys' : YQ 32 l2 = ys.map dS := hys.symm
  have hP : namesO (YQ 32 l2) = some (orF (ys.map dS)) := by
   rw [hys']
   unfold namesO
   rw [if_pos h7]
  rw [HPP.out] at hP
  obtain ⟨o, ho⟩ : ∃ o, orF (ys.map dS) = o := ⟨_, rfl⟩
  rw [ho] at hP h5
  clear ho
  have q1 := h1.lt
  have k1 := h1.cell
  have f1 := h1.frozen
  have k2 := h2.cell
  have f2 := h2.frozen
  have k5 := h5.cell
  subst hP
  have HH5 := Hi h5
  clear hys hys' h6 h7 HPP HC cA cB cC cD cE cm c0 c1 h4 h5
  gi_wp2
  have hK2 := (KeepsOthers.setCell (W.setCell ⟨w.heap.size, 0, none⟩ (.int .u8 (o : Int))) ⟨w.heap.size + 1, 0, none⟩ (.bool true)).same E _ ((KeepsOthers.setCell W ⟨w.heap.size, 0, none⟩ (.int .u8 (o : Int))).same E _ hK rfl) rfl
  have b1 := (h1.set (.int .u8 (o : Int))).kept (grownBy_setCell' _ (w.heap.size + 1) (.bool true)) (by simp)
  have b2 := (h2.kept (grownBy_setCell' W w.heap.size (.int .u8 (o : Int))) (by simp)).set (.bool true)
  have hB2 := (hB.setCell (p := ⟨w.heap.size, 0, none⟩) (Nat.le_refl _) (.int .u8 (o : Int))).setCell (p := ⟨w.heap.size + 1, 0, none⟩) (by simp) (.bool true)
  have hD2 : w.heap.size ≤ E := by omega
  refine ⟨by simp, .inl ⟨_, _, rfl, run_takeDeferred hK2, ?_⟩⟩
  have d1 := (ZX b1 (grownBy_putObj' _ E (.deferred none)) (fun r e => by cases e; exact ⟨_, hK2, rfl⟩)).cell
  have d2 := (ZX b2 (grownBy_putObj' _ E (.deferred none)) (fun r e => by cases e; exact ⟨_, hK2, rfl⟩)).cell
  refine ⟨.tuple #[.int .u8 (o : Int), .bool true], ?_, by simp, ?_⟩
  · simp [results, Tryz.f181, go_sem, d1, d2]
  · exact hB2.trans (belowK_b (w := w) (Nat.le_refl _) _ E _ _ hD2 hK2 rfl rfl)
 case stop =>
  rintro E c pre W hD' ⟨rest, hrest⟩ ⟨⟨rfl, ⟨p, hp, hbad⟩, h1, h2⟩, hB⟩ hK
  have hP : namesO (YQ 32 l2) = none := by
   unfold namesO
   rw [if_neg]
   intro h
   have h' : (YQ 32 l2).all (fun p => flagL p != 0) = true := h
   rw [← show pre.map dS ++ rest = YQ 32 l2 from hrest, List.all_append, Bool.and_eq_true, List.all_eq_true] at h'
   have := h'.1 (dS p) (List.mem_map.2 ⟨p, hp, rfl⟩)
   simp [hbad] at this
  rw [HPP.out] at hP
  subst hP
  clear HPP HC cA cB cC cD cE cm c0 c1
  gi_wp2
  have hD2 : w.heap.size ≤ E := by omega
  refine ⟨by simp, .inl ⟨_, _, rfl, run_takeDeferred hK, ?_⟩⟩
  have d1 := (ZX h1 (grownBy_putObj' _ E (.deferred none)) (fun r e => by cases e; exact ⟨_, hK, rfl⟩)).cell
  have d2 := (ZX h2 (grownBy_putObj' _ E (.deferred none)) (fun r e => by cases e; exact ⟨_, hK, rfl⟩)).cell
  refine ⟨.tuple #[.int .u8 0, .bool false], ?_, by simp, ?_⟩
  · simp [results, Tryz.f181, go_sem, d1, d2]
  · exact hB.trans (belowK_b (w := w) (Nat.le_refl _) _ E _ _ hD2 hK rfl rfl)
theorem fparse_any (s : ByteArray) (hs : s.size ≤ 100000000) (w : World) :
 Calls Tryz.prog 181 #[.string s] w fun e w' => e = .returned (.tuple #[.int .u8 (((parseF s.data.toList).getD 0 : Nat) : Int), .bool (parseF s.data.toList).isSome]) ∧ Below w.heap.size w w' := by
 cases hA : hasA s.data.toList with
 | false =>
   rw [cut_no (.inl hA)]
   exact parse_no s hs w (.inl hA)
 | true =>
   cases hB : hasB s.data.toList with
   | false =>
     rw [cut_no (.inr hB)]
     exact parse_no s hs w (.inr hB)
   | true =>
     by_cases hE : cutB s.data.toList = []
     · rw [cut_empty hA hB hE]
       exact parse_empty s hs w hA hB hE
     · rw [cut_some hA hB hE]
       exact parse_loop s hs w hA hB hE
end
end Go.Proofs.YtpgfnlhfciacoaaGreatDoor
