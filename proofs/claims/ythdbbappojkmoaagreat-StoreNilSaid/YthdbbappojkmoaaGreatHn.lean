/- Laws on a map that the call itself makes, beside the library's: an entry of a map's text; a look-up at string elements. -/
import Derived.Test.YthdbbappojkmoaaGreatHa
import Derived.Maps.StringElems
import Derived.Maps.Ext
import Derived.Maps.RangeWalk
import Derived.Test.YthdbbappojkmoaaGreatHc
namespace Go.Proofs.YthdbbappojkmoaaGreat
open Go.RowKit Go.Maps

section
variable {H : Type} {P : Program} (w : World) {ops : Array Oper} {rest : List Oper} {o : Oper} {a : Act} {Q : Exit → Act → World → Prop}

/-- An entry of a map's text. -/
theorem wpList_insert_own
    (hg : o.guard = none) (m x v : Operand) (t : TypeId) (hop : o.op = Op.insert t m x v)
    (k e : TypeId) (K : Keyed P k) (ht : P.underlying t = some (.map k e)) (R : Value → Option (DataW H × List MemPlace)) (b n : Nat) (D : DataW H)
    (hm : a.eval m = .map (some b)) (hown : w.ownsMap P k R b n D) (hn : n < maxLen) (key val : Value) (kl : Lit) (hx : a.eval x = key) (hv : a.eval v = val) (hkey : keyOf P k key = some kl)
    (d : DataW H) (ps : List MemPlace) (hval : R val = some (d, ps))
    (hK : ∀ w', w'.ownsMap P k R b (n + 1) (D.put kl d) → w.grownBy w' (some b) → wpList P ops Q rest (a.put o.dst undef) w') :
    wpList P ops Q (o :: rest) a w := by
  refine wpList_plain hg fun K' hK' => ?_
  obtain ⟨w', hrun, r1, r2⟩ := hown.update K ht hn hkey hval
  unfold Oper.wp
  simp [execOp, hop, hm, hx, hv, hrun, Result.andThen]
  exact hK' _ _ (hK w' r1 r2)

/-- 'm[k]' at string elements. -/
theorem wpList_lookup_own_string
    (hg : o.guard = none) (m x : Operand) (t : TypeId) (hop : o.op = Op.lookup t m x false)
    (k e : TypeId) (K : Keyed P k) (ht : P.underlying t = some (.map k e)) (he : P.underlying e = some .string) (hz : (zeroValue e).run P w = .ok (.string ⟨#[]⟩) w)
    (b n : Nat) (D : DataW H)
    (hm : a.eval m = .map (some b)) (hown : w.ownsMap P k (plainElem P e) b n D) (key : Value) (kl : Lit) (hx : a.eval x = key) (hkey : keyOf P k key = some kl)
    (hK : ∀ s : ByteArray, D.atKey kl (.lit (.string [])) = .lit (.string s.data.toList) → wpList P ops Q rest (a.put o.dst (.string s)) w) :
    wpList P ops Q (o :: rest) a w := by
  refine wpList_plain hg fun K' hK' => ?_
  obtain ⟨v, ps, hrun, hv⟩ := hown.lookup K ht hz (plainElem_string (H := H) he (s := ⟨#[]⟩) (by decide)) hkey
  obtain ⟨s, rfl, hc, hwc⟩ := plainElem_string_inv he hv
  simp only [Prod.mk.injEq] at hc
  unfold Oper.wp
  simp [execOp, hop, hm, hx, hrun, Result.andThen]
  exact hK' _ _ (hK s hc.1)

end

end Go.Proofs.YthdbbappojkmoaaGreat

namespace Go.Proofs.YthdbbappojkmoaaGreat
open Go.RowKit Go.Maps

def chD : DataW Unit := (((DataW.map []).put (.int .i64 0) (fnD 111)).put (.int .i64 1) (fnD 112)).put (.int .i64 2) (fnD 113)
theorem keyIF : Keyed Tryz.prog 3 := int_keyed Tryz.underlying3
theorem kI (x : Int) (h1 : -9223372036854775808 ≤ x) (h2 : x ≤ 9223372036854775807) : keyOf Tryz.prog 3 (.int .i64 x) = some (.int .i64 x) :=
  keyOf_int_mk Tryz.underlying3 (by simp [Lit.wf, IntKind.min, IntKind.max, IntKind.signed, IntKind.bits]; omega)
theorem zeroFn (w : World) : (zeroValue 162).run Tryz.prog w = .ok .nilFunc w := by kernel_rfl

set_option maxRecDepth 100000 in
theorem changes_any (w : World) :
    Calls Tryz.prog 100 #[] w fun e w' => e = .returned (.map (some w.heap.size)) ∧ w'.ownsMap Tryz.prog 3 fnElem w.heap.size 3 chD ∧ Below w.heap.size w w' := by
  have hmm := @run_makeMap Tryz.prog
  have hown := World.ownsMap_made (H := Unit) w Tryz.prog 3 fnElem
  have hb : Below w.heap.size w (w.alloc (.map #[] 0)) := (Below.refl _ _).alloc (Nat.le_refl _) _
  have HO := Lib.hid hown
  clear hown
  go_enter Tryz.func100, Tryz.ntmps100
  go_wp2_with (first
    | (refine wpList_insert_own (H := Unit) _ rfl _ (.const (.int .i64 0)) _ 164 rfl 3 162 keyIF Tryz.underlying164 fnElem w.heap.size 0 _ rfl HO.out (by decide) (.int .i64 0) _ (.int .i64 0) rfl rfl (kI 0 (by decide) (by decide)) (fnD 111) [] rfl ?_; intro w1 ho1 hg1; have HO1 := Lib.hid ho1; have hb1 := hb.grown hg1 (by simp) (fun j hj => by cases hj; exact Nat.le_refl _); clear ho1 hg1)
    | (refine wpList_insert_own (H := Unit) _ rfl _ (.const (.int .i64 1)) _ 164 rfl 3 162 keyIF Tryz.underlying164 fnElem w.heap.size 1 _ rfl HO1.out (by decide) (.int .i64 1) _ (.int .i64 1) rfl rfl (kI 1 (by decide) (by decide)) (fnD 112) [] rfl ?_; intro w2 ho2 hg2; have HO2 := Lib.hid ho2; have hb2 := hb1.grown hg2 hb1.size (fun j hj => by cases hj; exact Nat.le_refl _); clear ho2 hg2)
    | (refine wpList_insert_own (H := Unit) _ rfl _ (.const (.int .i64 2)) _ 164 rfl 3 162 keyIF Tryz.underlying164 fnElem w.heap.size 2 _ rfl HO2.out (by decide) (.int .i64 2) _ (.int .i64 2) rfl rfl (kI 2 (by decide) (by decide)) (fnD 113) [] rfl ?_; intro w3 ho3 hg3; have HO3 := Lib.hid ho3; have hb3 := hb2.grown hg3 hb2.size (fun j hj => by cases hj; exact Nat.le_refl _); clear ho3 hg3))
  go_ret
  exact ⟨rfl, HO3.out, hb3⟩

theorem replace_any (a b : Int) (w : World) : Calls Tryz.prog 111 #[.int .u8 a, .int .u8 b] w fun e w' => e = .returned (.int .u8 b) ∧ w = w' := by
  go_enter Tryz.func111, Tryz.ntmps111
  go_wp2
  go_ret
  exact ⟨rfl, rfl⟩
theorem add_any (a b : Nat) (ha : a < 256) (hb : b < 256) (w : World) : Calls Tryz.prog 112 #[.int .u8 a, .int .u8 b] w fun e w' => e = .returned (.int .u8 (a ||| b : Nat)) ∧ w = w' := by
  have R := Lib.hid (u8_or_nat a b ha hb)
  go_enter Tryz.func112, Tryz.ntmps112
  go_wp2
  go_ret
  exact ⟨ret_int R.out, rfl⟩
theorem remove_any (a b : Nat) (ha : a < 256) (hb : b < 256) (w : World) : Calls Tryz.prog 113 #[.int .u8 a, .int .u8 b] w fun e w' => e = .returned (.int .u8 (a &&& (255 - b) : Nat)) ∧ w = w' := by
  have R := Lib.hid (u8_andNot_nat a b ha hb)
  go_enter Tryz.func113, Tryz.ntmps113
  go_wp2
  go_ret
  exact ⟨ret_int R.out, rfl⟩
theorem in_range (a b : Nat) (ha : a < 256) (hb : b < 256) (h : a ≤ 31 ∧ b ≤ 31) : (bits BinOp.andNot IntKind.u8 ((a ||| b : Nat) : Int) 31 != 0) = false := by
  have e2 := u8_andNot_nat (a ||| b) 31 (Nat.or_lt_two_pow (n := 8) (by omega) (by omega)) (by omega)
  rw [show (a ||| b) &&& (255 - 31) = 0 from (high_or a b (by omega) (by omega)).2 h] at e2
  rw [show ((31 : Nat) : Int) = 31 from rfl] at e2
  rw [e2]; rfl
theorem out_range (a b : Nat) (ha : a < 256) (hb : b < 256) (h : ¬ (a ≤ 31 ∧ b ≤ 31)) : (bits BinOp.andNot IntKind.u8 ((a ||| b : Nat) : Int) 31 != 0) = true := by
  have e2 := u8_andNot_nat (a ||| b) 31 (Nat.or_lt_two_pow (n := 8) (by omega) (by omega)) (by omega)
  rw [show ((31 : Nat) : Int) = 31 from rfl] at e2
  rw [e2]
  have : (a ||| b) &&& (255 - 31) ≠ 0 := fun e => h ((high_or a b (by omega) (by omega)).1 e)
  simp only [bne_iff_ne, ne_eq, Int.natCast_eq_zero]
  exact this

set_option maxRecDepth 100000 in
theorem change_0 (a b : Nat) (ha : a ≤ 31) (hb : b ≤ 31) (w : World) :
    Calls Tryz.prog 77 #[.int .u8 a, .int .i64 0, .int .u8 b] w fun e w' => e = .returned (.tuple #[.int .u8 ((b : Nat) : Int), .bool true]) ∧ Below w.heap.size w w' := by
  have h1 : (-9223372036854775808 : Int) ≤ 0 := by decide
  have h2 : (0 : Int) ≤ 9223372036854775807 := by decide
  have hh : Maps.has chD (.int .i64 0) = true := by kernel_rfl
  have e1 := u8_or_nat a b (by omega) (by omega)
  have e2 := in_range a b (by omega) (by omega) ⟨ha, hb⟩
  have hA : chD.atKey (.int .i64 0) .nil = fnD 111 := by kernel_rfl
  have HA := Lib.hid hA
  have C := Lib.hid (fun w1 => replace_any a b w1)
  clear hA
  have N := Lib.hid (changes_any w)
  go_enter Tryz.func77, Tryz.ntmps77
  go_wp2_with fail
  refine N.out.mono ?_
  rintro e w1 ⟨rfl, ho, hb⟩
  have HO := Lib.hid ho
  clear ho N
  go_wp2_with (at_lookup; refine wpList_lookup_own_ok _ rfl _ _ 164 rfl 3 162 keyIF Tryz.underlying164 fnElem (zeroFn _) .nil [] rfl w.heap.size 3 _ rfl HO.out _ _ rfl (kI 0 h1 h2) ?_; intro v ps hv; obtain rfl := fnElem_fn (hv.trans (congrArg (fun d => some (d, ps)) HA.out)); clear hv)
  refine (C.out _).mono ?_
  rintro e w2 ⟨rfl, rfl⟩
  go_wp2_with fail
  go_ret2
  exact ⟨rfl, hb⟩

set_option maxRecDepth 100000 in
theorem change_1 (a b : Nat) (ha : a ≤ 31) (hb : b ≤ 31) (w : World) :
    Calls Tryz.prog 77 #[.int .u8 a, .int .i64 1, .int .u8 b] w fun e w' => e = .returned (.tuple #[.int .u8 ((a ||| b : Nat) : Int), .bool true]) ∧ Below w.heap.size w w' := by
  have h1 : (-9223372036854775808 : Int) ≤ 1 := by decide
  have h2 : (1 : Int) ≤ 9223372036854775807 := by decide
  have hh : Maps.has chD (.int .i64 1) = true := by kernel_rfl
  have e1 := u8_or_nat a b (by omega) (by omega)
  have e2 := in_range a b (by omega) (by omega) ⟨ha, hb⟩
  have hA : chD.atKey (.int .i64 1) .nil = fnD 112 := by kernel_rfl
  have HA := Lib.hid hA
  have C := Lib.hid (fun w1 => add_any a b (by omega) (by omega) w1)
  clear hA
  have N := Lib.hid (changes_any w)
  go_enter Tryz.func77, Tryz.ntmps77
  go_wp2_with fail
  refine N.out.mono ?_
  rintro e w1 ⟨rfl, ho, hb⟩
  have HO := Lib.hid ho
  clear ho N
  go_wp2_with (at_lookup; refine wpList_lookup_own_ok _ rfl _ _ 164 rfl 3 162 keyIF Tryz.underlying164 fnElem (zeroFn _) .nil [] rfl w.heap.size 3 _ rfl HO.out _ _ rfl (kI 1 h1 h2) ?_; intro v ps hv; obtain rfl := fnElem_fn (hv.trans (congrArg (fun d => some (d, ps)) HA.out)); clear hv)
  refine (C.out _).mono ?_
  rintro e w2 ⟨rfl, rfl⟩
  go_wp2_with fail
  go_ret2
  exact ⟨rfl, hb⟩

set_option maxRecDepth 100000 in
theorem change_2 (a b : Nat) (ha : a ≤ 31) (hb : b ≤ 31) (w : World) :
    Calls Tryz.prog 77 #[.int .u8 a, .int .i64 2, .int .u8 b] w fun e w' => e = .returned (.tuple #[.int .u8 ((a &&& (255 - b) : Nat) : Int), .bool true]) ∧ Below w.heap.size w w' := by
  have h1 : (-9223372036854775808 : Int) ≤ 2 := by decide
  have h2 : (2 : Int) ≤ 9223372036854775807 := by decide
  have hh : Maps.has chD (.int .i64 2) = true := by kernel_rfl
  have e1 := u8_or_nat a b (by omega) (by omega)
  have e2 := in_range a b (by omega) (by omega) ⟨ha, hb⟩
  have hA : chD.atKey (.int .i64 2) .nil = fnD 113 := by kernel_rfl
  have HA := Lib.hid hA
  have C := Lib.hid (fun w1 => remove_any a b (by omega) (by omega) w1)
  clear hA
  have N := Lib.hid (changes_any w)
  go_enter Tryz.func77, Tryz.ntmps77
  go_wp2_with fail
  refine N.out.mono ?_
  rintro e w1 ⟨rfl, ho, hb⟩
  have HO := Lib.hid ho
  clear ho N
  go_wp2_with (at_lookup; refine wpList_lookup_own_ok _ rfl _ _ 164 rfl 3 162 keyIF Tryz.underlying164 fnElem (zeroFn _) .nil [] rfl w.heap.size 3 _ rfl HO.out _ _ rfl (kI 2 h1 h2) ?_; intro v ps hv; obtain rfl := fnElem_fn (hv.trans (congrArg (fun d => some (d, ps)) HA.out)); clear hv)
  refine (C.out _).mono ?_
  rintro e w2 ⟨rfl, rfl⟩
  go_wp2_with fail
  go_ret2
  exact ⟨rfl, hb⟩

set_option maxRecDepth 100000 in
theorem change_out (a b : Nat) (ha : a < 256) (hb : b < 256) (hr : ¬ (a ≤ 31 ∧ b ≤ 31)) (m : Int) (h1 : -9223372036854775808 ≤ m) (h2 : m ≤ 9223372036854775807) (hh : Maps.has chD (.int .i64 m) = true) (w : World) :
    Calls Tryz.prog 77 #[.int .u8 a, .int .i64 m, .int .u8 b] w fun e w' => e = .returned (.tuple #[.int .u8 0, .bool false]) ∧ Below w.heap.size w w' := by
  have e1 := u8_or_nat a b (by omega) (by omega)
  have e2 := out_range a b (by omega) (by omega) hr
  clear hr
  have N := Lib.hid (changes_any w)
  go_enter Tryz.func77, Tryz.ntmps77
  go_wp2_with fail
  refine N.out.mono ?_
  rintro e w1 ⟨rfl, ho, hb⟩
  have HO := Lib.hid ho
  clear ho N
  go_wp2_with (at_lookup; refine wpList_lookup_own_ok _ rfl _ _ 164 rfl 3 162 keyIF Tryz.underlying164 fnElem (zeroFn _) .nil [] rfl w.heap.size 3 _ rfl HO.out _ _ rfl (kI m h1 h2) ?_; intro v ps hv; clear hv)
  go_ret2
  exact ⟨rfl, hb⟩

set_option maxRecDepth 100000 in
theorem change_bad (a b : Nat) (m : Int) (h1 : -9223372036854775808 ≤ m) (h2 : m ≤ 9223372036854775807) (hh : Maps.has chD (.int .i64 m) = false) (w : World) :
    Calls Tryz.prog 77 #[.int .u8 a, .int .i64 m, .int .u8 b] w fun e w' => e = .returned (.tuple #[.int .u8 0, .bool false]) ∧ Below w.heap.size w w' := by
  have N := Lib.hid (changes_any w)
  go_enter Tryz.func77, Tryz.ntmps77
  go_wp2_with fail
  refine N.out.mono ?_
  rintro e w1 ⟨rfl, ho, hb⟩
  have HO := Lib.hid ho
  clear ho N
  go_wp2_with (at_lookup; refine wpList_lookup_own_ok _ rfl _ _ 164 rfl 3 162 keyIF Tryz.underlying164 fnElem (zeroFn _) .nil [] rfl w.heap.size 3 _ rfl HO.out _ _ rfl (kI m h1 h2) ?_; intro v ps hv; clear hv)
  go_ret2
  exact ⟨rfl, hb⟩

theorem has_ch (m : Int) : Maps.has chD (.int .i64 m) = decide (m = 0 ∨ m = 1 ∨ m = 2) := by
  by_cases h0 : m = 0
  · subst h0; decide
  by_cases h1 : m = 1
  · subst h1; decide
  by_cases h2 : m = 2
  · subst h2; decide
  have hne : ∀ {a b : Int}, a ≠ b → Lit.int IntKind.i64 a ≠ .int .i64 b := fun h e => by injection e; contradiction
  unfold chD
  rw [has_put_other (hne h2), has_put_other (hne h1), has_put_other (hne h0)]
  simp [h0, h1, h2, Maps.has]

theorem fchange_any (a b : Nat) (ha : a < 256) (hb : b < 256) (m : Int) (h1 : -9223372036854775808 ≤ m) (h2 : m ≤ 9223372036854775807) (w : World) :
    Calls Tryz.prog 77 #[.int .u8 a, .int .i64 m, .int .u8 b] w fun e w' => e = .returned (.tuple #[.int .u8 (((changeO a m b).getD 0 : Nat) : Int), .bool (changeO a m b).isSome]) ∧ Below w.heap.size w w' := by
  unfold changeO
  by_cases hm : m = 0 ∨ m = 1 ∨ m = 2
  · by_cases hr : a ≤ 31 ∧ b ≤ 31
    · rw [if_neg (by omega)]
      rcases hm with rfl | rfl | rfl
      · exact change_0 a b hr.1 hr.2 w
      · exact change_1 a b hr.1 hr.2 w
      · exact change_2 a b hr.1 hr.2 w
    · rw [if_pos (by omega)]
      exact change_out a b ha hb hr m h1 h2 (by rw [has_ch]; simpa using hm) w
  · have e : (if m = 0 then some b else if m = 1 then some (a ||| b) else if m = 2 then some (a &&& (255 - b)) else none) = none := by
      rw [if_neg (by omega), if_neg (by omega), if_neg (by omega)]
    rw [e]
    have := change_bad a b m h1 h2 (by rw [has_ch]; simpa using hm) w
    split <;> exact this
end Go.Proofs.YthdbbappojkmoaaGreat
