/- Layer 1 in plain words: the three classes, capital letters. No walk, no program. -/
import Derived.WalkKit
import Derived.Maps.Ext
import Derived.Laws.BitsAllLaws
import Derived.Maps.OwnSet
namespace Go.Proofs.Ytcfpdflaabfdkaa
open Go.RowKit

/-- The class of atom bytes. -/
def atomN (n : Nat) : Bool := decide (32 < n ∧ n < 127 ∧ n ≠ 34 ∧ n ≠ 37 ∧ n ≠ 40 ∧ n ≠ 41 ∧ n ≠ 42 ∧ n ≠ 92 ∧ n ≠ 93 ∧ n ≠ 123)
/-- The class of tag bytes. -/
def tagN (n : Nat) : Bool := decide (n = 93 ∨ 32 < n ∧ n < 127 ∧ n ≠ 34 ∧ n ≠ 37 ∧ n ≠ 40 ∧ n ≠ 41 ∧ n ≠ 42 ∧ n ≠ 92 ∧ n ≠ 123 ∧ n ≠ 43)
/-- The class of text bytes. -/
def textN (n : Nat) : Bool := decide (0 < n ∧ n < 128 ∧ n ≠ 10 ∧ n ≠ 13)
/-- The bit of a byte in four words. -/
def bitAt (a b c d : Int) (n : Nat) : Bool := bits BinOp.and IntKind.u64 ((if n / 64 = 0 then a else if n / 64 = 1 then b else if n / 64 = 2 then c else d) / 2 ^ (n % 64)) 1 == 1

theorem atom_bit : ∀ n : Fin 256, bitAt 18446736213919399936 8646911283746045951 0 0 n.val = atomN n.val := by decide +kernel
theorem tag_bit : ∀ n : Fin 256, bitAt 18446727417826377728 8646911284282916863 0 0 n.val = tagN n.val := by decide +kernel
theorem text_bit : ∀ n : Fin 256, bitAt 18446744073709542398 18446744073709551615 0 0 n.val = textN n.val := by decide +kernel

/-- A capital letter in the place of a small one. -/
def upN (n : Nat) : Nat := if 97 ≤ n ∧ n ≤ 122 then n - 32 else n
def upB (c : UInt8) : UInt8 := UInt8.ofNat (upN c.toNat)
def upL (l : List UInt8) : List UInt8 := l.map upB
theorem upN_lt {n : Nat} (h : n < 256) : upN n < 256 := by unfold upN; split <;> omega
theorem upB_toNat (c : UInt8) : (upB c).toNat = upN c.toNat := by
  unfold upB; rw [UInt8.toNat_ofNat']; exact Nat.mod_eq_of_lt (upN_lt c.toNat_lt)
theorem upN_upN (n : Nat) : upN (upN n) = upN n := by unfold upN; split <;> (try split) <;> omega
theorem upB_upB (c : UInt8) : upB (upB c) = upB c := by
  apply UInt8.toNat_inj.1; rw [upB_toNat, upB_toNat, upN_upN]
theorem upL_upL (l : List UInt8) : upL (upL l) = upL l := by
  unfold upL; rw [List.map_map]; exact List.map_congr_left fun c _ => upB_upB c
theorem upL_length (l : List UInt8) : (upL l).length = l.length := by simp [upL]
end Go.Proofs.Ytcfpdflaabfdkaa

namespace Go.Proofs.Ytcfpdflaabfdkaa
open Go.RowKit Go.Maps

/-- The name of a flag. -/
def nameF (f : Nat) : List UInt8 :=
  if f = 1 then [92, 65, 110, 115, 119, 101, 114, 101, 100] else if f = 2 then [92, 70, 108, 97, 103, 103, 101, 100] else if f = 4 then [92, 68, 101, 108, 101, 116, 101, 100]
  else if f = 8 then [92, 83, 101, 101, 110] else if f = 16 then [92, 68, 114, 97, 102, 116] else []
def strD (l : List UInt8) : DataW Unit := .lit (.string l)
def flgD (f : Nat) : DataW Unit := .lit (.int .u8 (f : Int))
/-- The map of names, as it reads. -/
def nmD : DataW Unit := (((((DataW.map []).put (.int .u8 1) (strD (nameF 1))).put (.int .u8 2) (strD (nameF 2))).put (.int .u8 4) (strD (nameF 4))).put (.int .u8 8) (strD (nameF 8))).put (.int .u8 16) (strD (nameF 16))
/-- The flag of a name in capital letters, or 0. -/
def flagU (l : List UInt8) : Nat :=
  if l = upL (nameF 1) then 1 else if l = upL (nameF 2) then 2 else if l = upL (nameF 4) then 4 else if l = upL (nameF 8) then 8 else if l = upL (nameF 16) then 16 else 0
/-- The flag of a name in letters of any case, or 0. -/
def flagL (l : List UInt8) : Nat := flagU (upL l)
/-- As the reference says it: -1 for none. -/
def refO : Option Nat → Int
  | some x => x
  | none => -1
/-- The single flags. -/
def ones : List Nat := [1, 2, 4, 8, 16]
def eachL (f : Nat) : List Nat := ones.filter fun o => f &&& o != 0

theorem ones_mem {x : Nat} : x ∈ ones ↔ x = 1 ∨ x = 2 ∨ x = 4 ∨ x = 8 ∨ x = 16 := by simp [ones]

theorem isMap_nm : IsMap nmD := ((((isMap_empty.put _ _).put _ _).put _ _).put _ _).put _ _
/-- What stands in the map of names at a number. -/
theorem nm_at (x : Int) (z : DataW Unit) : nmD.atKey (.int .u8 x) z = if x = 1 then strD (nameF 1) else if x = 2 then strD (nameF 2) else if x = 4 then strD (nameF 4) else if x = 8 then strD (nameF 8) else if x = 16 then strD (nameF 16) else z := by
  have hne : ∀ {a b : Int}, a ≠ b → Lit.int IntKind.u8 a ≠ .int .u8 b := fun h e => by injection e; contradiction
  by_cases h1 : x = 1
  · subst h1; rfl
  by_cases h2 : x = 2
  · subst h2; rfl
  by_cases h4 : x = 4
  · subst h4; rfl
  by_cases h8 : x = 8
  · subst h8; rfl
  by_cases h16 : x = 16
  · subst h16; rfl
  rw [if_neg h1, if_neg h2, if_neg h4, if_neg h8, if_neg h16]
  unfold nmD
  rw [atKey_put_other (hne h16), atKey_put_other (hne h8), atKey_put_other (hne h4), atKey_put_other (hne h2), atKey_put_other (hne h1)]
  rfl
theorem nm_name (x : Nat) : nmD.atKey (.int .u8 (x : Int)) (strD []) = strD (nameF x) := by
  rw [nm_at]
  by_cases h1 : x = 1
  · subst h1; rfl
  by_cases h2 : x = 2
  · subst h2; rfl
  by_cases h4 : x = 4
  · subst h4; rfl
  by_cases h8 : x = 8
  · subst h8; rfl
  by_cases h16 : x = 16
  · subst h16; rfl
  rw [if_neg (by omega), if_neg (by omega), if_neg (by omega), if_neg (by omega), if_neg (by omega)]
  unfold nameF
  rw [if_neg h1, if_neg h2, if_neg h4, if_neg h8, if_neg h16]
/-- What has come out of the map of names. -/
theorem nm_found {x : Int} {c : List UInt8} (hat : ∀ zd, nmD.atKey (.int .u8 x) zd = strD c) : ∃ f : Nat, x = (f : Int) ∧ f ∈ ones ∧ c = nameF f := by
  have h1 := hat (flgD 0)
  rw [nm_at] at h1
  have inj : ∀ {a b : List UInt8}, strD a = strD b → b = a := fun h => by unfold strD at h; injection h with h; injection h with h; exact h.symm
  split at h1
  · rename_i e; exact ⟨1, e, by decide, inj h1⟩
  split at h1
  · rename_i e; exact ⟨2, e, by decide, inj h1⟩
  split at h1
  · rename_i e; exact ⟨4, e, by decide, inj h1⟩
  split at h1
  · rename_i e; exact ⟨8, e, by decide, inj h1⟩
  split at h1
  · rename_i e; exact ⟨16, e, by decide, inj h1⟩
  unfold flgD strD at h1
  cases h1

theorem flagU_name {f : Nat} (hf : f ∈ ones) : flagU (upL (nameF f)) = f := by
  rcases ones_mem.1 hf with rfl | rfl | rfl | rfl | rfl <;> decide
theorem flagU_is (l : List UInt8) : flagU l = 0 ∨ (flagU l ∈ ones ∧ l = upL (nameF (flagU l))) := by
  unfold flagU
  split
  · rename_i h; exact .inr ⟨by decide, h⟩
  split
  · rename_i h; exact .inr ⟨by decide, h⟩
  split
  · rename_i h; exact .inr ⟨by decide, h⟩
  split
  · rename_i h; exact .inr ⟨by decide, h⟩
  split
  · rename_i h; exact .inr ⟨by decide, h⟩
  · exact .inl rfl
theorem flagU_eq {l : List UInt8} {f : Nat} (hf : f ∈ ones) : flagU l = f ↔ l = upL (nameF f) := by
  constructor
  · intro h
    rcases flagU_is l with h0 | ⟨_, h1⟩
    · rw [h0] at h; subst h; simp [ones] at hf
    · rw [h] at h1; exact h1
  · rintro rfl; exact flagU_name hf

/-- The map of flags while it is filled: what is no longer to come is in it. -/
def FlagsInv (D : DataW Unit) (left : Lit → Bool) : Prop :=
  IsMap D ∧ ∀ l z, D.atKey (.string l) z = if flagU l ≠ 0 ∧ left (.int .u8 (flagU l : Int)) = false then flgD (flagU l) else z
/-- The map of flags. -/
def FlagsD (D : DataW Unit) : Prop := ∀ l z, D.atKey (.string l) z = if flagU l ≠ 0 then flgD (flagU l) else z

theorem flags_start : FlagsInv (.map []) (has nmD) := by
  refine ⟨isMap_empty, fun l z => ?_⟩
  rw [if_neg]
  · rfl
  · rintro ⟨h0, h1⟩
    rcases flagU_is l with h | ⟨h, _⟩
    · exact h0 h
    · rcases ones_mem.1 h with e | e | e | e | e <;> (rw [e] at h1; revert h1; decide)
theorem flags_step {D : DataW Unit} {left : Lit → Bool} {f : Nat} (hf : f ∈ ones) (h : FlagsInv D left) :
    FlagsInv (D.put (.string (upL (nameF f))) (flgD f)) (fun z => left z && !z.sameKey (.int .u8 (f : Int))) := by
  refine ⟨h.1.put _ _, fun l z => ?_⟩
  by_cases e : l = upL (nameF f)
  · have h0 : flagU l = f := (flagU_eq hf).2 e
    have hs : (Lit.int .u8 (f : Int)).sameKey (.int .u8 (f : Int)) = true := by simp [Lit.sameKey]
    have hne : f ≠ 0 := by rintro rfl; simp [ones] at hf
    rw [h0, if_pos ⟨hne, by simp only [hs]; simp⟩, e]
    exact atKey_put_same h.1 (by simp [WideAt.IsKeyLit]) _ _
  · rw [atKey_put_other (fun h => e (by injection h)), h.2 l z]
    by_cases h0 : flagU l = 0
    · rw [if_neg (fun h => h.1 h0), if_neg (fun h => h.1 h0)]
    · have hne : (flagU l : Int) ≠ f := fun h => e ((flagU_eq hf).1 (by omega))
      have hs : (Lit.int .u8 (flagU l : Int)).sameKey (.int .u8 (f : Int)) = false := by simp [Lit.sameKey]; omega
      simp only [hs]
      simp
theorem flags_end {D : DataW Unit} {left : Lit → Bool} (h : FlagsInv D left) (hl : ∀ kl, left kl = false) : FlagsD D := fun l z => by
  rw [h.2 l z]
  simp [hl]
theorem FlagsD.has {D : DataW Unit} (h : FlagsD D) (l : List UInt8) : Maps.has D (.string l) = decide (flagU l ≠ 0) := by
  by_cases h0 : flagU l = 0
  · rw [has_false_of_atKey (fun z => by rw [h l z, if_neg (by simpa using h0)])]
    simp [h0]
  · rw [has_true_of_atKey (fun z => by rw [h l z, if_pos h0])]
    simp [h0]
theorem FlagsD.at {D : DataW Unit} (h : FlagsD D) {l : List UInt8} {c : Int} (hat : D.atKey (.string l) (.lit (.int .u8 0)) = .lit (.int .u8 c)) : c = (flagU l : Int) := by
  rw [h l] at hat
  split at hat
  · unfold flgD at hat; injection hat with hat; injection hat with _ hat; exact hat.symm
  · rename_i h0
    injection hat with hat
    injection hat with _ hat
    have : flagU l = 0 := by simpa using h0
    rw [this]; exact hat.symm
end Go.Proofs.Ytcfpdflaabfdkaa

namespace Go.Proofs.Ytcfpdflaabfdkaa
open Go.RowKit Go.Maps

theorem ofInt_i64 (a : Nat) (ha : a < 18446744073709551616) : (BitVec.ofInt 64 (a : Int)).toNat = a := by
  rw [BitVec.ofInt_natCast, BitVec.toNat_ofNat]; exact Nat.mod_eq_of_lt (by omega)
theorem wrap_i64_nat (a : Nat) (ha : a < 256) : IntKind.i64.wrap (a : Int) = (a : Int) := by
  have h : (a : Int) % 18446744073709551616 = a := by omega
  simp only [IntKind.wrap, IntKind.bits, IntKind.signed, Bool.true_and, Int.reducePow, Nat.reduceSub, ge_iff_le, h, decide_eq_true_eq]
  rw [if_neg (by omega)]
theorem i64_and_nat (a b : Nat) (ha : a < 256) (hb : b < 256) : bits .and .i64 (a : Int) (b : Int) = ((a &&& b : Nat) : Int) := by
  have hx : a &&& b < 2 ^ 8 := Nat.and_lt_two_pow _ (by omega)
  show IntKind.i64.wrap ((BitVec.ofInt 64 (a : Int) &&& BitVec.ofInt 64 (b : Int)).toNat : Int) = _
  rw [BitVec.toNat_and, ofInt_i64 a (by omega), ofInt_i64 b (by omega)]
  exact wrap_i64_nat _ hx
theorem i64_or_nat (a b : Nat) (ha : a < 256) (hb : b < 256) : bits .or .i64 (a : Int) (b : Int) = ((a ||| b : Nat) : Int) := by
  have hx : a ||| b < 2 ^ 8 := Nat.or_lt_two_pow (by omega) (by omega)
  show IntKind.i64.wrap ((BitVec.ofInt 64 (a : Int) ||| BitVec.ofInt 64 (b : Int)).toNat : Int) = _
  rw [BitVec.toNat_or, ofInt_i64 a (by omega), ofInt_i64 b (by omega)]
  exact wrap_i64_nat _ hx
theorem bit64_yes {f o : Nat} (hf : f < 256) (ho : o < 256) (h : f &&& o = 0) : (bits BinOp.and IntKind.i64 (f : Int) (o : Int) == 0) = true := by
  rw [i64_and_nat f o hf ho, h]; rfl
theorem bit64_no {f o : Nat} (hf : f < 256) (ho : o < 256) (h : f &&& o ≠ 0) : (bits BinOp.and IntKind.i64 (f : Int) (o : Int) == 0) = false := by
  rw [i64_and_nat f o hf ho]
  simp only [beq_eq_false_iff_ne, ne_eq, Int.natCast_eq_zero]
  exact h
theorem not31 : ∀ a b : Fin 32, a.val &&& (18446744073709551615 - b.val) = a.val &&& (255 - b.val) := by decide +kernel
theorem i64_andNot_nat (a b : Nat) (ha : a < 32) (hb : b < 32) : bits .andNot .i64 (a : Int) (b : Int) = ((a &&& (255 - b) : Nat) : Int) := by
  have hx : a &&& (255 - b) < 2 ^ 8 := Nat.and_lt_two_pow _ (by omega)
  show IntKind.i64.wrap ((BitVec.ofInt 64 (a : Int) &&& ~~~BitVec.ofInt 64 (b : Int)).toNat : Int) = _
  rw [BitVec.toNat_and, BitVec.toNat_not, ofInt_i64 a (by omega), ofInt_i64 b (by omega)]
  have e : 2 ^ 64 - 1 - b = 18446744073709551615 - b := by omega
  rw [e, not31 ⟨a, ha⟩ ⟨b, hb⟩]
  exact wrap_i64_nat _ hx

/-- What a change leads to. -/
def changeO (old : Nat) (mode : Int) (f : Nat) : Option Nat :=
  if 31 < old ∨ 31 < f then none else if mode = 0 then some f else if mode = 1 then some (old ||| f) else if mode = 2 then some (old &&& (255 - f)) else none
theorem high1 : ∀ a : Fin 256, a.val &&& 224 = 0 ↔ a.val ≤ 31 := by decide +kernel
theorem high_or (a b : Nat) (ha : a < 256) (hb : b < 256) : ((a ||| b) &&& 224 = 0) ↔ (a ≤ 31 ∧ b ≤ 31) := by
  rw [Nat.and_or_distrib_right, Nat.or_eq_zero_iff, high1 ⟨a, ha⟩, high1 ⟨b, hb⟩]

/-- How a function's value reads: by its number. -/
def fnElem : Value → Option (DataW Unit × List MemPlace)
  | .nilFunc => some (.nil, [])
  | .func (.func n) a b => if a.size = 0 ∧ b.size = 0 then some (.lit (.int .i64 n), []) else none
  | _ => none
theorem fnElem_nil {v : Value} {ps : List MemPlace} (h : fnElem v = some (.nil, ps)) : v = .nilFunc := by
  unfold fnElem at h
  split at h
  · rfl
  · split at h <;> simp at h
  · cases h
theorem fnElem_fn {v : Value} {n : Nat} {ps : List MemPlace} (h : fnElem v = some (.lit (.int .i64 n), ps)) : v = .func (.func n) #[] #[] := by
  unfold fnElem at h
  split at h
  · simp at h
  · rename_i m a b
    split at h
    · rename_i hs
      simp at h
      obtain ⟨h, _⟩ := h
      have ha : a = #[] := by apply Array.eq_empty_of_size_eq_zero hs.1
      have hb : b = #[] := by apply Array.eq_empty_of_size_eq_zero hs.2
      subst ha hb
      first
        | (subst h; rfl)
        | (have hm : m = n := Int.ofNat.inj h; subst hm; rfl)
    · cases h
  · cases h
def fnD (n : Nat) : DataW Unit := .lit (.int .i64 (n : Int))
end Go.Proofs.Ytcfpdflaabfdkaa
