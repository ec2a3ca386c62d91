/- Layer 3 in plain words: the names of flags, the single flags of a set, what a list of names denotes. No walk. -/
import Derived.Test.YtchlmmglibladaaDoorCharMath
import Derived.Maps.Ext
namespace Go.Proofs.YtchlmmglibladaaDoor
open Go.RowKit Go.Maps

/-- The name of a flag. -/
def nameF (f : Nat) : List UInt8 :=
  if f = 1 then [92, 65, 110, 115, 119, 101, 114, 101, 100] else if f = 2 then [92, 70, 108, 97, 103, 103, 101, 100] else if f = 4 then [92, 68, 101, 108, 101, 116, 101, 100]
  else if f = 8 then [92, 83, 101, 101, 110] else if f = 16 then [92, 68, 114, 97, 102, 116] else []
def strD (l : List UInt8) : DataW Unit := .lit (.string l)
def flgD (f : Nat) : DataW Unit := .lit (.int .u8 (f : Int))
/-- The map of names, as it reads. -/
def nmD : DataW Unit := (((((DataW.map []).put (.int .u8 1) (strD (nameF 1))).put (.int .u8 2) (strD (nameF 2))).put (.int .u8 4) (strD (nameF 4))).put (.int .u8 8) (strD (nameF 8))).put (.int .u8 16) (strD (nameF 16))
/-- The flag of a name in capital letters, or 0. -/
def flagU (l : List UInt8) : Nat :=
  if l = upL (nameF 1) then 1 else if l = upL (nameF 2) then 2 else if l = upL (nameF 4) then 4 else if l = upL (nameF 8) then 8 else if l = upL (nameF 16) then 16 else 0
/-- The flag of a name in letters of any case, or 0. -/
def flagL (l : List UInt8) : Nat := flagU (upL l)
/-- As the reference says it: -1 for none. -/
def refO : Option Nat → Int
  | some x => x
  | none => -1
/-- The single flags. -/
def ones : List Nat := [1, 2, 4, 8, 16]
def eachL (f : Nat) : List Nat := ones.filter fun o => f &&& o != 0

theorem ones_mem {x : Nat} : x ∈ ones ↔ x = 1 ∨ x = 2 ∨ x = 4 ∨ x = 8 ∨ x = 16 := by simp [ones]

theorem isMap_nm : IsMap nmD := ((((isMap_empty.put _ _).put _ _).put _ _).put _ _).put _ _
/-- What stands in the map of names at a number. -/
theorem nm_at (x : Int) (z : DataW Unit) : nmD.atKey (.int .u8 x) z = if x = 1 then strD (nameF 1) else if x = 2 then strD (nameF 2) else if x = 4 then strD (nameF 4) else if x = 8 then strD (nameF 8) else if x = 16 then strD (nameF 16) else z := by
  have hne : ∀ {a b : Int}, a ≠ b → Lit.int IntKind.u8 a ≠ .int .u8 b := fun h e => by injection e; contradiction
  by_cases h1 : x = 1
  · subst h1; rfl
  by_cases h2 : x = 2
  · subst h2; rfl
  by_cases h4 : x = 4
  · subst h4; rfl
  by_cases h8 : x = 8
  · subst h8; rfl
  by_cases h16 : x = 16
  · subst h16; rfl
  rw [if_neg h1, if_neg h2, if_neg h4, if_neg h8, if_neg h16]
  unfold nmD
  rw [atKey_put_other (hne h16), atKey_put_other (hne h8), atKey_put_other (hne h4), atKey_put_other (hne h2), atKey_put_other (hne h1)]
  rfl
theorem nm_name (x : Nat) : nmD.atKey (.int .u8 (x : Int)) (strD []) = strD (nameF x) := by
  rw [nm_at]
  by_cases h1 : x = 1
  · subst h1; rfl
  by_cases h2 : x = 2
  · subst h2; rfl
  by_cases h4 : x = 4
  · subst h4; rfl
  by_cases h8 : x = 8
  · subst h8; rfl
  by_cases h16 : x = 16
  · subst h16; rfl
  rw [if_neg (by omega), if_neg (by omega), if_neg (by omega), if_neg (by omega), if_neg (by omega)]
  unfold nameF
  rw [if_neg h1, if_neg h2, if_neg h4, if_neg h8, if_neg h16]
/-- What has come out of the map of names. -/
theorem nm_found {x : Int} {c : List UInt8} (hat : ∀ zd, nmD.atKey (.int .u8 x) zd = strD c) : ∃ f : Nat, x = (f : Int) ∧ f ∈ ones ∧ c = nameF f := by
  have h1 := hat (flgD 0)
  rw [nm_at] at h1
  have inj : ∀ {a b : List UInt8}, strD a = strD b → b = a := fun h => by unfold strD at h; injection h with h; injection h with h; exact h.symm
  split at h1
  · rename_i e; exact ⟨1, e, by decide, inj h1⟩
  split at h1
  · rename_i e; exact ⟨2, e, by decide, inj h1⟩
  split at h1
  · rename_i e; exact ⟨4, e, by decide, inj h1⟩
  split at h1
  · rename_i e; exact ⟨8, e, by decide, inj h1⟩
  split at h1
  · rename_i e; exact ⟨16, e, by decide, inj h1⟩
  unfold flgD strD at h1
  cases h1

theorem flagU_name {f : Nat} (hf : f ∈ ones) : flagU (upL (nameF f)) = f := by
  rcases ones_mem.1 hf with rfl | rfl | rfl | rfl | rfl <;> decide
theorem flagU_is (l : List UInt8) : flagU l = 0 ∨ (flagU l ∈ ones ∧ l = upL (nameF (flagU l))) := by
  unfold flagU
  split
  · rename_i h; exact .inr ⟨by decide, h⟩
  split
  · rename_i h; exact .inr ⟨by decide, h⟩
  split
  · rename_i h; exact .inr ⟨by decide, h⟩
  split
  · rename_i h; exact .inr ⟨by decide, h⟩
  split
  · rename_i h; exact .inr ⟨by decide, h⟩
  · exact .inl rfl
theorem flagU_eq {l : List UInt8} {f : Nat} (hf : f ∈ ones) : flagU l = f ↔ l = upL (nameF f) := by
  constructor
  · intro h
    rcases flagU_is l with h0 | ⟨_, h1⟩
    · rw [h0] at h; subst h; simp [ones] at hf
    · rw [h] at h1; exact h1
  · rintro rfl; exact flagU_name hf

/-- The map of flags while it is filled: what is no longer to come is in it. -/
def FlagsInv (D : DataW Unit) (left : Lit → Bool) : Prop :=
  IsMap D ∧ ∀ l z, D.atKey (.string l) z = if flagU l ≠ 0 ∧ left (.int .u8 (flagU l : Int)) = false then flgD (flagU l) else z
/-- The map of flags. -/
def FlagsD (D : DataW Unit) : Prop := ∀ l z, D.atKey (.string l) z = if flagU l ≠ 0 then flgD (flagU l) else z

theorem flags_start : FlagsInv (.map []) (has nmD) := by
  refine ⟨isMap_empty, fun l z => ?_⟩
  rw [if_neg]
  · rfl
  · rintro ⟨h0, h1⟩
    rcases flagU_is l with h | ⟨h, _⟩
    · exact h0 h
    · rcases ones_mem.1 h with e | e | e | e | e <;> (rw [e] at h1; revert h1; decide)
theorem flags_step {D : DataW Unit} {left : Lit → Bool} {f : Nat} (hf : f ∈ ones) (h : FlagsInv D left) :
    FlagsInv (D.put (.string (upL (nameF f))) (flgD f)) (fun z => left z && !z.sameKey (.int .u8 (f : Int))) := by
  refine ⟨h.1.put _ _, fun l z => ?_⟩
  by_cases e : l = upL (nameF f)
  · have h0 : flagU l = f := (flagU_eq hf).2 e
    have hs : (Lit.int .u8 (f : Int)).sameKey (.int .u8 (f : Int)) = true := by simp [Lit.sameKey]
    have hne : f ≠ 0 := by rintro rfl; simp [ones] at hf
    rw [h0, if_pos ⟨hne, by simp only [hs]; simp⟩, e]
    exact atKey_put_same h.1 (by simp [WideAt.IsKeyLit]) _ _
  · rw [atKey_put_other (fun h => e (by injection h)), h.2 l z]
    by_cases h0 : flagU l = 0
    · rw [if_neg (fun h => h.1 h0), if_neg (fun h => h.1 h0)]
    · have hne : (flagU l : Int) ≠ f := fun h => e ((flagU_eq hf).1 (by omega))
      have hs : (Lit.int .u8 (flagU l : Int)).sameKey (.int .u8 (f : Int)) = false := by simp [Lit.sameKey]; omega
      simp only [hs]
      simp
theorem flags_end {D : DataW Unit} {left : Lit → Bool} (h : FlagsInv D left) (hl : ∀ kl, left kl = false) : FlagsD D := fun l z => by
  rw [h.2 l z]
  simp [hl]
theorem FlagsD.has {D : DataW Unit} (h : FlagsD D) (l : List UInt8) : Maps.has D (.string l) = decide (flagU l ≠ 0) := by
  by_cases h0 : flagU l = 0
  · rw [has_false_of_atKey (fun z => by rw [h l z, if_neg (by simpa using h0)])]
    simp [h0]
  · rw [has_true_of_atKey (fun z => by rw [h l z, if_pos h0])]
    simp [h0]
theorem FlagsD.at {D : DataW Unit} (h : FlagsD D) {l : List UInt8} {c : Int} (hat : D.atKey (.string l) (.lit (.int .u8 0)) = .lit (.int .u8 c)) : c = (flagU l : Int) := by
  rw [h l] at hat
  split at hat
  · unfold flgD at hat; injection hat with hat; injection hat with _ hat; exact hat.symm
  · rename_i h0
    injection hat with hat
    injection hat with _ hat
    have : flagU l = 0 := by simpa using h0
    rw [this]; exact hat.symm
end Go.Proofs.YtchlmmglibladaaDoor
