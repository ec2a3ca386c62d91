/- A map of the call's own behind a call that only makes memory. -/
import Derived.Test.YthfopimgdikpgaaGreatDoorGa
import Derived.Maps.OwnIn
import Derived.Test.YthfopimgdikpgaaGreatDoorGt
import Derived.Laws.BitsAllLaws
import Derived.Maps.OwnSet
import Derived.Test.YthfopimgdikpgaaGreatDoorGs
import Derived.Shelf.Small.Wraps
import Derived.Stop.RegionWithIn
namespace Go.Proofs.YthfopimgdikpgaaGreatDoor
open Go.RowKit Go.Maps

theorem map_below {H : Type} {P : Program} {k : TypeId} {R : Value → Option (DataW H × List MemPlace)} {w w' : World} {b n : Nat} {D : DataW H} (hm : w.ownsMap P k R b n D) (hb : Below w.heap.size w w') : w'.ownsMap P k R b n D :=
  hm.kept (row := none) ⟨hb.os, hb.tape, hb.output, hb.size, fun k hk _ => hb.block k hk⟩ (by simp)
end Go.Proofs.YthfopimgdikpgaaGreatDoor

namespace Go.Proofs.YthfopimgdikpgaaGreatDoor
open Go.RowKit Go.Maps

theorem ofInt_i64 (a : Nat) (ha : a < 18446744073709551616) : (BitVec.ofInt 64 (a : Int)).toNat = a := by
  rw [BitVec.ofInt_natCast, BitVec.toNat_ofNat]; exact Nat.mod_eq_of_lt (by omega)
theorem wrap_i64_nat (a : Nat) (ha : a < 256) : IntKind.i64.wrap (a : Int) = (a : Int) := by
  have h : (a : Int) % 18446744073709551616 = a := by omega
  simp only [IntKind.wrap, IntKind.bits, IntKind.signed, Bool.true_and, Int.reducePow, Nat.reduceSub, ge_iff_le, h, decide_eq_true_eq]
  rw [if_neg (by omega)]
theorem i64_and_nat (a b : Nat) (ha : a < 256) (hb : b < 256) : bits .and .i64 (a : Int) (b : Int) = ((a &&& b : Nat) : Int) := by
  have hx : a &&& b < 2 ^ 8 := Nat.and_lt_two_pow _ (by omega)
  show IntKind.i64.wrap ((BitVec.ofInt 64 (a : Int) &&& BitVec.ofInt 64 (b : Int)).toNat : Int) = _
  rw [BitVec.toNat_and, ofInt_i64 a (by omega), ofInt_i64 b (by omega)]
  exact wrap_i64_nat _ hx
theorem i64_or_nat (a b : Nat) (ha : a < 256) (hb : b < 256) : bits .or .i64 (a : Int) (b : Int) = ((a ||| b : Nat) : Int) := by
  have hx : a ||| b < 2 ^ 8 := Nat.or_lt_two_pow (by omega) (by omega)
  show IntKind.i64.wrap ((BitVec.ofInt 64 (a : Int) ||| BitVec.ofInt 64 (b : Int)).toNat : Int) = _
  rw [BitVec.toNat_or, ofInt_i64 a (by omega), ofInt_i64 b (by omega)]
  exact wrap_i64_nat _ hx
theorem bit64_yes {f o : Nat} (hf : f < 256) (ho : o < 256) (h : f &&& o = 0) : (bits BinOp.and IntKind.i64 (f : Int) (o : Int) == 0) = true := by
  rw [i64_and_nat f o hf ho, h]; rfl
theorem bit64_no {f o : Nat} (hf : f < 256) (ho : o < 256) (h : f &&& o ≠ 0) : (bits BinOp.and IntKind.i64 (f : Int) (o : Int) == 0) = false := by
  rw [i64_and_nat f o hf ho]
  simp only [beq_eq_false_iff_ne, ne_eq, Int.natCast_eq_zero]
  exact h
theorem not31 : ∀ a b : Fin 32, a.val &&& (18446744073709551615 - b.val) = a.val &&& (255 - b.val) := by decide +kernel
theorem i64_andNot_nat (a b : Nat) (ha : a < 32) (hb : b < 32) : bits .andNot .i64 (a : Int) (b : Int) = ((a &&& (255 - b) : Nat) : Int) := by
  have hx : a &&& (255 - b) < 2 ^ 8 := Nat.and_lt_two_pow _ (by omega)
  show IntKind.i64.wrap ((BitVec.ofInt 64 (a : Int) &&& ~~~BitVec.ofInt 64 (b : Int)).toNat : Int) = _
  rw [BitVec.toNat_and, BitVec.toNat_not, ofInt_i64 a (by omega), ofInt_i64 b (by omega)]
  have e : 2 ^ 64 - 1 - b = 18446744073709551615 - b := by omega
  rw [e, not31 ⟨a, ha⟩ ⟨b, hb⟩]
  exact wrap_i64_nat _ hx

/-- What a change leads to. -/
def changeO (old : Nat) (mode : Int) (f : Nat) : Option Nat :=
  if 31 < old ∨ 31 < f then none else if mode = 0 then some f else if mode = 1 then some (old ||| f) else if mode = 2 then some (old &&& (255 - f)) else none
theorem high1 : ∀ a : Fin 256, a.val &&& 224 = 0 ↔ a.val ≤ 31 := by decide +kernel
theorem high_or (a b : Nat) (ha : a < 256) (hb : b < 256) : ((a ||| b) &&& 224 = 0) ↔ (a ≤ 31 ∧ b ≤ 31) := by
  rw [Nat.and_or_distrib_right, Nat.or_eq_zero_iff, high1 ⟨a, ha⟩, high1 ⟨b, hb⟩]

/-- How a function's value reads: by its number. -/
def fnElem : Value → Option (DataW Unit × List MemPlace)
  | .nilFunc => some (.nil, [])
  | .func (.func n) a b => if a.size = 0 ∧ b.size = 0 then some (.lit (.int .i64 n), []) else none
  | _ => none
theorem fnElem_nil {v : Value} {ps : List MemPlace} (h : fnElem v = some (.nil, ps)) : v = .nilFunc := by
  unfold fnElem at h
  split at h
  · rfl
  · split at h <;> simp at h
  · cases h
theorem fnElem_fn {v : Value} {n : Nat} {ps : List MemPlace} (h : fnElem v = some (.lit (.int .i64 n), ps)) : v = .func (.func n) #[] #[] := by
  unfold fnElem at h
  split at h
  · simp at h
  · rename_i m a b
    split at h
    · rename_i hs
      simp at h
      obtain ⟨h, _⟩ := h
      have ha : a = #[] := by apply Array.eq_empty_of_size_eq_zero hs.1
      have hb : b = #[] := by apply Array.eq_empty_of_size_eq_zero hs.2
      subst ha hb
      first
        | (subst h; rfl)
        | (have hm : m = n := Int.ofNat.inj h; subst hm; rfl)
    · cases h
  · cases h
def fnD (n : Nat) : DataW Unit := .lit (.int .i64 (n : Int))
end Go.Proofs.YthfopimgdikpgaaGreatDoor

namespace Go.Proofs.YthfopimgdikpgaaGreatDoor
open Go.RowKit Go.Maps Go.Shelf
attribute [local go_sem] Oper.semAt_some

/-- A name is looked for. -/
theorem look_flag {w : World} {b : Nat} {D : DataW Unit} (hown : w.ownsMap Tryz.prog 9 (plainElem Tryz.prog 25) b 5 D) (hD : FlagsD D) (u : List UInt8) (hu : u.length ≤ 1000000000) :
    (Instr.lookup 130 (.map (some b)) (.string ⟨u.toArray⟩) true).run Tryz.prog w = .ok (.tuple #[.int .u8 (flagU u : Nat), .bool (decide (flagU u ≠ 0))]) w := by
  obtain ⟨v, ps, hrun, hv⟩ := hown.look_ok keyS Tryz.underlying130 (zeroF w) (plainElem_int (H := Unit) Tryz.underlying25 (a := 0) (by decide)) (kS u hu)
  obtain ⟨c, rfl, hc, _⟩ := plainElem_int_inv Tryz.underlying25 hv
  simp only [Prod.mk.injEq] at hc
  rw [hrun, hD.has, hD.at hc.1]

theorem mk_sizeF (l : List UInt8) : (ByteArray.mk l.toArray).size = l.length := by show l.toArray.size = _; simp
theorem len_size (s : ByteArray) : s.data.toList.length = s.size := by rw [Array.length_toList]; rfl

set_option maxRecDepth 100000 in
set_option maxHeartbeats 1000000 in
theorem parse_no (s : ByteArray) (hs : s.size ≤ 100000000) (w : World) (hn : hasA s.data.toList = false ∨ hasB s.data.toList = false) :
    Calls Tryz.prog 100 #[.string s] w fun e w' => e = .returned (.tuple #[.int .u8 0, .bool false]) ∧ Below w.heap.size w w' := by
  have hcl := cutA_len s.data.toList
  have C1 := Lib.hid (fun w1 => Any.strings_CutPrefix Tryz.lays103 s ⟨#[40]⟩ w1)
  have C2 := Lib.hid (fun w1 => Any.strings_CutSuffix Tryz.lays104 ⟨(cutA s.data.toList).toArray⟩ ⟨#[41]⟩ w1 (by rw [mk_sizeF]; have := len_size s; omega))
  have E1 : Lib.trimPrefix s.data.toList (ByteArray.mk #[40]).data.toList = cutA s.data.toList := rfl
  have E2 : Lib.hasPrefix s.data.toList (ByteArray.mk #[40]).data.toList = hasA s.data.toList := rfl
  have E3 : Lib.trimSuffix (ByteArray.mk (cutA s.data.toList).toArray).data.toList (ByteArray.mk #[41]).data.toList = cutB s.data.toList := rfl
  have E4 : Lib.hasSuffix (ByteArray.mk (cutA s.data.toList).toArray).data.toList (ByteArray.mk #[41]).data.toList = hasB s.data.toList := rfl
  rw [E1, E2] at C1
  rw [E3, E4] at C2
  clear E1 E2 E3 E4 hcl
  generalize hasA s.data.toList = a at *
  generalize hasB s.data.toList = b at *
  generalize cutA s.data.toList = l1 at *
  generalize cutB s.data.toList = l2 at *
  cases a
  case false =>
    clear hn
    go_enter Tryz.func100, Tryz.ntmps100
    go_wp2_with fail
    refine (C1.out _).mono ?_
    rintro e w1 ⟨rfl, rfl⟩
    go_wp2_with fail
    refine (C2.out _).mono ?_
    rintro e w1 ⟨rfl, rfl⟩
    go_wp2_with fail
    exact bodyPost_ret (v := .tuple #[.int .u8 0, .bool false]) (by simp [results, Tryz.f100, go_sem]) rfl ⟨rfl, by repeat (first | exact Below.refl _ _ | refine Below.alloc ?_ (by simp <;> omega) _ | refine Below.setCell ?_ (by simp <;> omega) _)⟩
  case true =>
    obtain rfl : b = false := by simpa using hn
    clear hn
    go_enter Tryz.func100, Tryz.ntmps100
    go_wp2_with fail
    refine (C1.out _).mono ?_
    rintro e w1 ⟨rfl, rfl⟩
    go_wp2_with fail
    refine (C2.out _).mono ?_
    rintro e w1 ⟨rfl, rfl⟩
    go_wp2_with fail
    exact bodyPost_ret (v := .tuple #[.int .u8 0, .bool false]) (by simp [results, Tryz.f100, go_sem]) rfl ⟨rfl, by repeat (first | exact Below.refl _ _ | refine Below.alloc ?_ (by simp <;> omega) _ | refine Below.setCell ?_ (by simp <;> omega) _)⟩

set_option maxRecDepth 100000 in
set_option maxHeartbeats 1000000 in
theorem parse_empty (s : ByteArray) (hs : s.size ≤ 100000000) (w : World) (hA : hasA s.data.toList = true) (hB : hasB s.data.toList = true) (hE : cutB s.data.toList = []) :
    Calls Tryz.prog 100 #[.string s] w fun e w' => e = .returned (.tuple #[.int .u8 0, .bool true]) ∧ Below w.heap.size w w' := by
  have hcl := cutA_len s.data.toList
  have C1 := Lib.hid (fun w1 => Any.strings_CutPrefix Tryz.lays103 s ⟨#[40]⟩ w1)
  have C2 := Lib.hid (fun w1 => Any.strings_CutSuffix Tryz.lays104 ⟨(cutA s.data.toList).toArray⟩ ⟨#[41]⟩ w1 (by rw [mk_sizeF]; have := len_size s; omega))
  have E1 : Lib.trimPrefix s.data.toList (ByteArray.mk #[40]).data.toList = cutA s.data.toList := rfl
  have E2 : Lib.hasPrefix s.data.toList (ByteArray.mk #[40]).data.toList = hasA s.data.toList := rfl
  have E3 : Lib.trimSuffix (ByteArray.mk (cutA s.data.toList).toArray).data.toList (ByteArray.mk #[41]).data.toList = cutB s.data.toList := rfl
  have E4 : Lib.hasSuffix (ByteArray.mk (cutA s.data.toList).toArray).data.toList (ByteArray.mk #[41]).data.toList = hasB s.data.toList := rfl
  rw [E1, E2, hA] at C1
  rw [E3, E4, hB, hE] at C2
  clear E1 E2 E3 E4 hcl hA hB hE
  generalize cutA s.data.toList = l1 at *
  go_enter Tryz.func100, Tryz.ntmps100
  go_wp2_with fail
  refine (C1.out _).mono ?_
  rintro e w1 ⟨rfl, rfl⟩
  go_wp2_with fail
  refine (C2.out _).mono ?_
  rintro e w1 ⟨rfl, rfl⟩
  go_wp2_with fail
  exact bodyPost_ret (v := .tuple #[.int .u8 0, .bool true]) (by simp [results, Tryz.f100, go_sem]) rfl ⟨rfl, by repeat (first | exact Below.refl _ _ | refine Below.alloc ?_ (by simp <;> omega) _ | refine Below.setCell ?_ (by simp <;> omega) _)⟩
end Go.Proofs.YthfopimgdikpgaaGreatDoor

namespace Go.Proofs.YthfopimgdikpgaaGreatDoor
open Go.RowKit Go.Maps Go.Shelf
attribute [local go_sem] Oper.semAt_some

def dS (p : SB) : List UInt8 := p.1.data.toList
/-- Between two rounds of Parse: the results' boxes, the map's, the flags', the iterator's string's; and the map. -/
def FI (n0 s bm : Nat) (D : DataW Unit) (pre : List SB) (W : World) : Prop :=
  Boxed W n0 25 (.int .u8 0) ∧ Boxed W (n0 + 1) 4 (.bool false) ∧ (∃ u, Boxed W (s + 2) 9 u) ∧ Boxed W s 130 (.map (some bm)) ∧
    Boxed W (s + 1) 25 (.int .u8 (orF (pre.map dS) : Nat)) ∧ W.ownsMap Tryz.prog 9 (plainElem Tryz.prog 25) bm 5 D ∧ allF (pre.map dS) = true
def FX (n0 : Nat) (c : Code) (pre : List SB) (W : World) : Prop :=
  c = .ret ∧ (∃ p ∈ pre, flagL (dS p) = 0) ∧ Boxed W n0 25 (.int .u8 0) ∧ Boxed W (n0 + 1) 4 (.bool false)

theorem fi_own (n0 s bm B : Nat) (hB : bm < B) (D : DataW Unit) : OwnFrom B (FI n0 s bm D) := by
  rintro pre X Y row ⟨h1, h2, ⟨u, h3⟩, h4, h5, h6, h7⟩ hg hr
  have hr' : ∀ r, row = some r → ∃ o : Obj, X.heap[r]? = some o ∧ o.isCells = false := fun r e => (hr r e).2
  exact ⟨boxed_of h1 hg hr', boxed_of h2 hg hr', ⟨u, boxed_of h3 hg hr'⟩, boxed_of h4 hg hr', boxed_of h5 hg hr', h6.kept hg (fun e => by have := (hr _ e.symm).1; omega), h7⟩
theorem fx_own (n0 : Nat) (c : Code) : Own (FX n0 c) := by
  rintro pre X Y row ⟨h0, h00, h1, h2⟩ hg hr
  exact ⟨h0, h00, boxed_of h1 hg hr, boxed_of h2 hg hr⟩
/-- A map's block is no box. -/
theorem map_ne_box {w : World} {k : TypeId} {R : Value → Option (DataW Unit × List MemPlace)} {b n : Nat} {D : DataW Unit} (hm : w.ownsMap Tryz.prog k R b n D) {B : Nat} {t : TypeId} {v : Value} (h : Boxed w B t v) : some b ≠ some B := by
  intro e
  injection e with e
  subst e
  obtain ⟨es, clock, hb, _⟩ := hm
  rw [show w.heap[b]? = _ from h] at hb
  cases hb
theorem fi_writes (n0 s bm : Nat) (hn : n0 + 1 < s) (D : DataW Unit) (pre : List SB) (A B : World) (h : FI n0 s bm D pre A) (hw : WritesS (s + 2) A B) : FI n0 s bm D pre B := by
  obtain ⟨h1, h2, ⟨u, h3⟩, h4, h5, h6, h7⟩ := h
  obtain ⟨_, x, _, rfl⟩ := hw
  have hg := grownBy_setCell' A (s + 2) x
  exact ⟨h1.kept hg (by simp; omega), h2.kept hg (by simp; omega), ⟨x, h3.set x⟩, h4.kept hg (by simp), h5.kept hg (by simp), h6.kept hg (map_ne_box h6 h3), h7⟩
theorem belowW {n0 s : Nat} (hn : n0 ≤ s) {w A B : World} (h : Below n0 w A) (hw : WritesS (s + 2) A B) : Below n0 w B := by
  obtain ⟨_, x, _, rfl⟩ := hw
  exact h.setCell (p := ⟨s + 2, 0, none⟩) (by simp; omega) _
set_option maxRecDepth 100000 in
set_option maxHeartbeats 4000000 in
theorem parse_loop (s : ByteArray) (hs : s.size ≤ 100000000) (w : World) (hA : hasA s.data.toList = true) (hB : hasB s.data.toList = true) (hE : cutB s.data.toList ≠ []) :
    Calls Tryz.prog 100 #[.string s] w fun e w' => e = .returned (.tuple #[.int .u8 (((namesO (splitL 32 (cutB s.data.toList))).getD 0 : Nat) : Int), .bool (namesO (splitL 32 (cutB s.data.toList))).isSome]) ∧ Below w.heap.size w w' := by
  have hcl := cutA_len s.data.toList
  have hcl2 := cutB_len s.data.toList
  have C1 := Lib.hid (fun w1 => Any.strings_CutPrefix Tryz.lays103 s ⟨#[40]⟩ w1)
  have C2 := Lib.hid (fun w1 => Any.strings_CutSuffix Tryz.lays104 ⟨(cutA s.data.toList).toArray⟩ ⟨#[41]⟩ w1 (by rw [mk_sizeF]; have := len_size s; omega))
  have E1 : Lib.trimPrefix s.data.toList (ByteArray.mk #[40]).data.toList = cutA s.data.toList := rfl
  have E2 : Lib.hasPrefix s.data.toList (ByteArray.mk #[40]).data.toList = hasA s.data.toList := rfl
  have E3 : Lib.trimSuffix (ByteArray.mk (cutA s.data.toList).toArray).data.toList (ByteArray.mk #[41]).data.toList = cutB s.data.toList := rfl
  have E4 : Lib.hasSuffix (ByteArray.mk (cutA s.data.toList).toArray).data.toList (ByteArray.mk #[41]).data.toList = hasB s.data.toList := rfl
  rw [E1, E2, hA] at C1
  rw [E3, E4, hB] at C2
  have hll := len_size s
  clear E1 E2 E3 E4 hA hB
  generalize cutA s.data.toList = l1 at *
  generalize cutB s.data.toList = l2 at *
  obtain ⟨pp, hpp⟩ : ∃ pp, namesO (splitL 32 l2) = pp := ⟨_, rfl⟩
  rw [hpp]
  have HPP := Lib.hid hpp
  have hl2 : l2.length ≤ 100000000 := by omega
  have he1 : l2.isEmpty = false := by simpa using hE
  have F := Lib.hid (fun w1 => flags_any w1)
  clear hpp hE hcl hcl2 hll
  refine (callsIn_wide (n := 3)).1 ?_
  refine callsIn_of_wp_marks Tryz.func100 rfl trivial ?_ rfl
  simp only [Tryz.ntmps100, List.size_toArray, List.length_cons, List.length_nil, Nat.reduceAdd, Nat.reduceSub, Array.replicate_succ, Array.replicate_zero, List.push_toArray, List.append_toArray, List.nil_append, List.cons_append]
  gi_wp2_with fail
  refine ⟨trivial, ?_⟩
  refine (callsIn_wide.2 (C1.out _)).mono ?_
  rintro e w1 ⟨rfl, rfl⟩
  gi_wp2_with fail
  refine ⟨trivial, ?_⟩
  refine (callsIn_wide.2 (C2.out _)).mono ?_
  rintro e w1 ⟨rfl, rfl⟩
  gi_wp2_with fail
  refine ⟨trivial, ?_⟩
  refine (callsIn_wide.2 (F.out _)).mono ?_
  rintro e w1 ⟨bm, D, rfl, hm, hD, hbm, hb⟩
  have B0 := Boxed.behind ((Boxed.new w 25 (.int .u8 0)).alloc (.cells #[.bool false] 4)) hb
  have B1 := Boxed.behind (Boxed.new (w.alloc (.cells #[.int .u8 0] 25)) 4 (.bool false)) hb
  have hb0 : Below w.heap.size w w1 := below_step (((Below.refl _ _).alloc (Nat.le_refl _) _).alloc (by simp) _) hb (by simp; omega)
  have hbm2 : w.heap.size + 2 ≤ bm := by simp at hbm; omega
  have hbml := hm.lt
  rw [show (w.alloc (.cells #[.int .u8 0] 25)).heap.size = w.heap.size + 1 by simp] at B1
  have HM := Lib.hid hm
  have HB0 := Lib.hid B0
  have HB1 := Lib.hid B1
  clear hm B0 B1 hb hbm
  gi_wp2_with fail
  refine ⟨trivial, ?_⟩
  refine (callsIn_wide.2 (SplitSeq_any _ _ _)).mono ?_
  rintro e w2 ⟨rfl, rfl⟩
  gi_wp2_with fail
  have HBw : Below w.heap.size w (((((w1.alloc (.cells #[.map (some bm)] 130)).alloc (.cells #[.int .u8 0] 25)).alloc (.cells #[.string ⟨l2.toArray⟩] 9)).alloc (.cells #[.string ⟨#[32]⟩] 9)).alloc (.cells #[.int .i64 0] 3)) := by
    have := hb0.size
    repeat (first | exact hb0 | refine Below.alloc ?_ (by simp <;> omega) _ | refine Below.alloc ?_ (by omega) _)
  have c0 := ((((HB0.out.alloc (.cells #[.map (some bm)] 130)).alloc (.cells #[.int .u8 0] 25)).alloc (.cells #[.string ⟨l2.toArray⟩] 9)).alloc (.cells #[.string ⟨#[32]⟩] 9)).alloc (.cells #[.int .i64 0] 3)
  have c1 := ((((HB1.out.alloc (.cells #[.map (some bm)] 130)).alloc (.cells #[.int .u8 0] 25)).alloc (.cells #[.string ⟨l2.toArray⟩] 9)).alloc (.cells #[.string ⟨#[32]⟩] 9)).alloc (.cells #[.int .i64 0] 3)
  have cm := ((((HM.out.alloc (.cells #[.map (some bm)] 130)).alloc (.cells #[.int .u8 0] 25)).alloc (.cells #[.string ⟨l2.toArray⟩] 9)).alloc (.cells #[.string ⟨#[32]⟩] 9)).alloc (.cells #[.int .i64 0] 3)
  have cA := ((((Boxed.new w1 130 (.map (some bm))).alloc (.cells #[.int .u8 0] 25)).alloc (.cells #[.string ⟨l2.toArray⟩] 9)).alloc (.cells #[.string ⟨#[32]⟩] 9)).alloc (.cells #[.int .i64 0] 3)
  have cB := (((Boxed.new (w1.alloc (.cells #[.map (some bm)] 130)) 25 (.int .u8 0)).alloc (.cells #[.string ⟨l2.toArray⟩] 9)).alloc (.cells #[.string ⟨#[32]⟩] 9)).alloc (.cells #[.int .i64 0] 3)
  have cC := ((Boxed.new ((w1.alloc (.cells #[.map (some bm)] 130)).alloc (.cells #[.int .u8 0] 25)) 9 (.string ⟨l2.toArray⟩)).alloc (.cells #[.string ⟨#[32]⟩] 9)).alloc (.cells #[.int .i64 0] 3)
  have cD := (Boxed.new (((w1.alloc (.cells #[.map (some bm)] 130)).alloc (.cells #[.int .u8 0] 25)).alloc (.cells #[.string ⟨l2.toArray⟩] 9)) 9 (.string ⟨#[32]⟩)).alloc (.cells #[.int .i64 0] 3)
  have cE := Boxed.new ((((w1.alloc (.cells #[.map (some bm)] 130)).alloc (.cells #[.int .u8 0] 25)).alloc (.cells #[.string ⟨l2.toArray⟩] 9)).alloc (.cells #[.string ⟨#[32]⟩] 9)) 3 (.int .i64 0)
  simp only [World.size_alloc, Nat.add_assoc, Nat.reduceAdd] at cB cC cD cE
  have hsz : w1.heap.size + 5 ≤ (((((w1.alloc (.cells #[.map (some bm)] 130)).alloc (.cells #[.int .u8 0] 25)).alloc (.cells #[.string ⟨l2.toArray⟩] 9)).alloc (.cells #[.string ⟨#[32]⟩] 9)).alloc (.cells #[.int .i64 0] 3)).heap.size := by simp
  have hn01 := hb0.size
  clear HB0 HB1 HM hb0
  generalize (((((w1.alloc (.cells #[.map (some bm)] 130)).alloc (.cells #[.int .u8 0] 25)).alloc (.cells #[.string ⟨l2.toArray⟩] 9)).alloc (.cells #[.string ⟨#[32]⟩] 9)).alloc (.cells #[.int .i64 0] 3)) = W0 at *
  generalize w1.heap.size = n at *
  have HC := Lib.hid cC
  have hsl := splitL_len 32 l2
  have hl2s : (⟨l2.toArray⟩ : ByteArray).size ≤ 1000000000 := by rw [mk_sizeF]; omega
  refine wpIn_rangeFunc_it rfl (by omega) (gf := 136) (lb := #[.pointer (some ⟨n + 3, 0, none⟩), .pointer (some ⟨n + 2, 0, none⟩), .pointer (some ⟨n + 4, 0, none⟩)]) rfl trivial (enters_of Tryz.func136 (by kernel_rfl) rfl)
    (split_does 2 (by omega) (n + 3) (n + 2) (n + 4) 32 ⟨l2.toArray⟩ hl2s W0 cD cC cE (by omega)) (fun h k => keepsS_t h k) (fun W l o o' h1 h2 h3 h4 => ⟨keepsT_b (w := W0) W l o o' h1 h2 h3 h4, keepsT_b (w := W0) W l o o' h1 h2 h3 h4⟩)
    (fun X Y i o hw ho hc => by
      obtain ⟨_, u, hbx, rfl⟩ := hw
      by_cases hi3 : i = n + 2
      · subst hi3
        rw [show X.heap[n + 2]? = _ from hbx] at ho
        cases ho
        simp [Obj.isCells] at hc
      · exact (Below.heap_setCell X ⟨n + 2, 0, none⟩ u i hi3).trans ho)
    (Below.refl _ _) (fun _ => rfl)
    (fun pre W => FI w.heap.size n bm D pre W ∧ Below w.heap.size w W)
    (fun c pre W => FX w.heap.size c pre W ∧ Below w.heap.size w W)
    (OwnFrom.and (fi_own _ _ _ _ (by omega) _) (ownFrom_below (Nat.le_refl _) (by omega)))
    (fun c => OwnFrom.and (Own.from (fx_own _ c) _) (ownFrom_below (Nat.le_refl _) (by omega)))
    (fun s A B h hw => ⟨fi_writes _ _ _ (by omega) _ s A B h.1 hw, belowW (by omega) h.2 hw⟩)
    ⟨⟨c0, c1, ⟨_, cC⟩, cA, cB, cm, rfl⟩, HBw⟩
    ?a1 ?assign ?body ?done ?stop
  case assign =>
    intro l x W K hK
    gi_wp2
    exact hK
  case body =>
    rintro l pre x W ⟨⟨h1, h2, ⟨u3, h3⟩, h4, h5, h6, h7⟩, hB⟩ hlt
    have hd : 1 ≤ 3 - 1 - 1 := by omega
    have hmx : Tryz.prog.follows .mixedOrders = true := by kernel_rfl
    have U := Lib.hid (fun w1 => upper_any x.1 x.2 w1)
    have hul : (upL x.1.data.toList).length ≤ 1000000000 := by rw [upL_length, len_size]; exact x.2
    have LK := Lib.hid (fun w3 (hb : Below W.drew.heap.size W.drew w3) => look_flag (map_below h6.drew hb) hD (upL x.1.data.toList) hul)
    have hfx : flagU (upL x.1.data.toList) = flagL (dS x) := rfl
    rw [hfx] at LK
    have HFX := Lib.hid hfx
    clear hfx
    generalize upL x.1.data.toList = ux at *
    have hc4 := h4.cell
    have H1 := Lib.hid h1
    have H2 := Lib.hid h2
    have H3 := Lib.hid h3
    have H4 := Lib.hid h4
    have H5 := Lib.hid h5
    have H6 := Lib.hid h6
    have H7 := Lib.hid h7
    have h4l : n < W.heap.size := h4.lt
    clear h1 h2 h3 h4 h5 h6 h7 hD
    by_cases h0 : flagL (dS x) = 0
    · rw [h0] at LK
      gi_wp2
      gi_region_with (refine ⟨trivial, ?_⟩; gi_at_call 38; refine (CallsIn.inRound l (callsIn_wide.2 (U.out _))).mono ?_; rintro e w3 ⟨rfl, hb3⟩; have hlk := LK.out w3 hb3; have hc4' : w3.cell? ⟨n, 0, none⟩ = some (.map (some bm)) := (hb3.cell (p := ⟨n, 0, none⟩) h4l).trans hc4)
      all_goals
        have b1 := Boxed.behind (show Boxed W.drew w.heap.size 25 (.int .u8 0) from H1.out) hb3
        have b2 := Boxed.behind (show Boxed W.drew (w.heap.size + 1) 4 (.bool false) from H2.out) hb3
        have hB1 : Below w.heap.size w w3 := hB.drew.trans (hb3.mono hB.drew.size)
        have hKO := (KeepsOthers.drew W).trans (keepsO_below hb3)
        have k1 := b1.cell
        have f1 := b1.frozen
        have k2 := b2.cell
        have f2 := b2.frozen
        clear LK HC cA cB cC cD cE cm c0 c1 hlk hc4' hc4 hb3
        gi_wp2_with fail
        exact ⟨(hKO.trans ((KeepsOthers.setCell _ _ _).trans (KeepsOthers.setCell _ _ _))).from _, ⟨rfl, ⟨x, by simp, h0⟩, (b1.set _).kept (grownBy_setCell' _ _ _) (by simp), (b2.kept (grownBy_setCell' _ _ _) (by simp)).set _⟩, (hB1.setCell (p := ⟨w.heap.size, 0, none⟩) (Nat.le_refl _) _).setCell (p := ⟨w.heap.size + 1, 0, none⟩) (by simp) _⟩
    · have hfl := flagL_lt (dS x)
      have hol := orF_lt (pre.map dS)
      have HO := Lib.hid (orF_snoc (pre.map dS) (dS x))
      have HA := Lib.hid (allF_snoc (pre.map dS) (dS x))
      have hdec : decide (flagL (dS x) ≠ 0) = true := by simpa using h0
      rw [hdec] at LK
      have HG := Lib.hid (show (flagL (dS x) != 0) = true by simpa using h0)
      generalize flagL (dS x) = g at *
      generalize orF (pre.map dS) = o at *
      have e1 := u8_or_nat o g (by omega) (by omega)
      clear hdec h0
      gi_wp2
      gi_region_with (refine ⟨trivial, ?_⟩; gi_at_call 38; refine (CallsIn.inRound l (callsIn_wide.2 (U.out _))).mono ?_; rintro e w3 ⟨rfl, hb3⟩; have hlk := LK.out w3 hb3; have hc4' : w3.cell? ⟨n, 0, none⟩ = some (.map (some bm)) := (hb3.cell (p := ⟨n, 0, none⟩) h4l).trans hc4)
      all_goals
        have b1 := Boxed.behind (show Boxed W.drew w.heap.size 25 (.int .u8 0) from H1.out) hb3
        have b2 := Boxed.behind (show Boxed W.drew (w.heap.size + 1) 4 (.bool false) from H2.out) hb3
        have b3 := Boxed.behind (show Boxed W.drew (n + 2) 9 u3 from H3.out) hb3
        have b4 := Boxed.behind (show Boxed W.drew n 130 (.map (some bm)) from H4.out) hb3
        have b5 := Boxed.behind (show Boxed W.drew (n + 1) 25 (.int .u8 (o : Int)) from H5.out) hb3
        have hB1 : Below w.heap.size w w3 := hB.drew.trans (hb3.mono hB.drew.size)
        have hKO := (KeepsOthers.drew W).trans (keepsO_below hb3)
        have hKS : ∀ T, T ≠ 25 → KeepsT T W (w3.setCell ⟨n + 1, 0, none⟩ (.int .u8 ((o ||| g : Nat) : Int))) := fun T hT => ((KeepsT.refl T W.drew).below hb3).set_ b5 hT.symm _
        have hM := Lib.hid (map_below H6.out.drew hb3)
        have k5 := b5.cell
        have f5 := b5.frozen
        clear LK HC cA cB cC cD cE cm c0 c1 hlk hc4' hc4 hb3
        gi_wp2_with fail
        exact ⟨(hKO.trans (KeepsOthers.setCell _ _ _)).from _, ⟨hKS _ (by decide), hKS _ (by decide)⟩, ⟨b1.kept (grownBy_setCell' _ _ _) (by simp; omega), b2.kept (grownBy_setCell' _ _ _) (by simp; omega), ⟨_, b3.kept (grownBy_setCell' _ _ _) (by simp)⟩, b4.kept (grownBy_setCell' _ _ _) (by simp),
          by rw [List.map_append, List.map_cons, List.map_nil, HO.out]; exact b5.set _, hM.out.kept (grownBy_setCell' _ _ _) (map_ne_box hM.out b5), by rw [List.map_append, List.map_cons, List.map_nil, HA.out, H7.out, HG.out]; rfl⟩, hB1.setCell (p := ⟨n + 1, 0, none⟩) (by simp; omega) _⟩
  case done =>
    rintro E ys W hD' hys ⟨⟨h1, h2, -, h4, h5, h6, h7⟩, hB⟩ hK
    have hys' : splitL 32 l2 = ys.map dS := hys.symm
    have hP : namesO (splitL 32 l2) = some (orF (ys.map dS)) := by
      rw [hys']
      unfold namesO
      rw [if_pos h7]
    rw [HPP.out] at hP
    obtain ⟨o, ho⟩ : ∃ o, orF (ys.map dS) = o := ⟨_, rfl⟩
    rw [ho] at hP h5
    clear ho
    have q1 := h1.lt
    have k1 := h1.cell
    have f1 := h1.frozen
    have k2 := h2.cell
    have f2 := h2.frozen
    have k5 := h5.cell
    subst hP
    have HH5 := Lib.hid h5
    clear hys hys' h6 h7 HPP HC cA cB cC cD cE cm c0 c1 h4 h5
    gi_wp2
    have hK2 := (KeepsOthers.setCell (W.setCell ⟨w.heap.size, 0, none⟩ (.int .u8 (o : Int))) ⟨w.heap.size + 1, 0, none⟩ (.bool true)).same E _ ((KeepsOthers.setCell W ⟨w.heap.size, 0, none⟩ (.int .u8 (o : Int))).same E _ hK rfl) rfl
    have b1 := (h1.set (.int .u8 (o : Int))).kept (grownBy_setCell' _ (w.heap.size + 1) (.bool true)) (by simp)
    have b2 := (h2.kept (grownBy_setCell' W w.heap.size (.int .u8 (o : Int))) (by simp)).set (.bool true)
    have hB2 := (hB.setCell (p := ⟨w.heap.size, 0, none⟩) (Nat.le_refl _) (.int .u8 (o : Int))).setCell (p := ⟨w.heap.size + 1, 0, none⟩) (by simp) (.bool true)
    have hD2 : w.heap.size ≤ E := by omega
    refine ⟨by simp, .inl ⟨_, _, rfl, run_takeDeferred hK2, ?_⟩⟩
    have d1 := (boxed_of b1 (grownBy_putObj' _ E (.deferred none)) (fun r e => by cases e; exact ⟨_, hK2, rfl⟩)).cell
    have d2 := (boxed_of b2 (grownBy_putObj' _ E (.deferred none)) (fun r e => by cases e; exact ⟨_, hK2, rfl⟩)).cell
    refine ⟨.tuple #[.int .u8 (o : Int), .bool true], ?_, by simp, ?_⟩
    · simp [results, Tryz.f100, go_sem, d1, d2]
    · exact hB2.trans (belowK_b (w := w) (Nat.le_refl _) _ E _ _ hD2 hK2 rfl rfl)
  case stop =>
    rintro E c pre W hD' ⟨rest, hrest⟩ ⟨⟨rfl, ⟨p, hp, hbad⟩, h1, h2⟩, hB⟩ hK
    have hP : namesO (splitL 32 l2) = none := by
      unfold namesO
      rw [if_neg]
      intro h
      have h' : (splitL 32 l2).all (fun p => flagL p != 0) = true := h
      rw [← show pre.map dS ++ rest = splitL 32 l2 from hrest, List.all_append, Bool.and_eq_true, List.all_eq_true] at h'
      have := h'.1 (dS p) (List.mem_map.2 ⟨p, hp, rfl⟩)
      simp [hbad] at this
    rw [HPP.out] at hP
    subst hP
    clear HPP HC cA cB cC cD cE cm c0 c1
    gi_wp2
    have hD2 : w.heap.size ≤ E := by omega
    refine ⟨by simp, .inl ⟨_, _, rfl, run_takeDeferred hK, ?_⟩⟩
    have d1 := (boxed_of h1 (grownBy_putObj' _ E (.deferred none)) (fun r e => by cases e; exact ⟨_, hK, rfl⟩)).cell
    have d2 := (boxed_of h2 (grownBy_putObj' _ E (.deferred none)) (fun r e => by cases e; exact ⟨_, hK, rfl⟩)).cell
    refine ⟨.tuple #[.int .u8 0, .bool false], ?_, by simp, ?_⟩
    · simp [results, Tryz.f100, go_sem, d1, d2]
    · exact hB.trans (belowK_b (w := w) (Nat.le_refl _) _ E _ _ hD2 hK rfl rfl)

/-- Parse, whatever the string. -/
theorem fparse_any (s : ByteArray) (hs : s.size ≤ 100000000) (w : World) :
    Calls Tryz.prog 100 #[.string s] w fun e w' => e = .returned (.tuple #[.int .u8 (((parseF s.data.toList).getD 0 : Nat) : Int), .bool (parseF s.data.toList).isSome]) ∧ Below w.heap.size w w' := by
  cases hA : hasA s.data.toList with
  | false =>
    rw [cut_no (.inl hA)]
    exact parse_no s hs w (.inl hA)
  | true =>
    cases hB : hasB s.data.toList with
    | false =>
      rw [cut_no (.inr hB)]
      exact parse_no s hs w (.inr hB)
    | true =>
      by_cases hE : cutB s.data.toList = []
      · rw [cut_empty hA hB hE]
        exact parse_empty s hs w hA hB hE
      · rw [cut_some hA hB hE]
        exact parse_loop s hs w hA hB hE
end Go.Proofs.YthfopimgdikpgaaGreatDoor
