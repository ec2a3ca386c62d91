import Derived.Test.YtpgfnlhfciacoaaGreatDoorPGw
import Derived.Test.YtpgfnlhfciacoaaGreatDoorPGh
namespace Go.Proofs.YtpgfnlhfciacoaaGreatDoor
section
open Go.RowKit
def mboxT (s : List UInt8) : List UInt8 := if allL atomN s = true then s else bestL s
def restT (a : CI) : List UInt8 :=
 if a.kind = 5 then 32 :: mboxT a.mbox
 else if a.kind = 6 then (32 :: mboxT a.mbox) ++ ((if 0 < a.flags then 32 :: listL a.flags.toNat else []) ++ 32 :: YS a.data)
 else if a.kind = 7 then (32 :: printL a.set) ++ 32 :: itemsT a.items.toNat
 else if a.kind = 8 then (32 :: printL a.set) ++ ((32 :: modeT a.mode.toNat a.silent) ++ 32 :: listL a.flags.toNat)
 else []
def textT (a : CI) : List UInt8 := a.tag ++ (32 :: verbZ a.kind) ++ restT a
theorem escL_len8 (b : List UInt8) : (escL b).length ≤ 2 * b.length := by
 induction b with
 | nil => simp [escL]
 | cons c b ih =>
   rw [escL_cons, List.length_append]
   have : (escC c).length ≤ 2 := by unfold escC; split <;> simp
   simp only [List.length_cons]
   omega
theorem lit_len8 {b : List UInt8} (hb : b.length ≤ 1000000) : (YS b).length ≤ b.length + 14 := by
 unfold YS
 have := headL_len (n := b.length) (by omega)
 rw [List.length_append]
 omega
theorem mboxT_len {b : List UInt8} (hb : b.length ≤ 1000000) : (mboxT b).length ≤ 2 * b.length + 14 := by
 have h1 := escL_len8 b
 have h2 := lit_len8 hb
 unfold mboxT bestL quotedL
 split
 · omega
 · split
   · simp only [List.length_cons, List.length_append, List.length_nil]; omega
   · omega
theorem verbZ_len (k : Int) : (verbZ k).length ≤ 7 := by
 unfold verbZ verbB
 repeat' split
 all_goals decide
theorem listL_len8 {f : Nat} (hf : f ≤ 31) : (listL f).length ≤ 60 := by
 have h : ∀ x : _root_.Fin 32, (listL x.val).length ≤ 60 := by decide +kernel
 exact h ⟨f, by omega⟩
theorem itemsT_len8 {f : Nat} (hf : f ≤ 31) : (itemsT f).length ≤ 60 := by
 have h : ∀ x : _root_.Fin 32, (itemsT x.val).length ≤ 60 := by decide +kernel
 exact h ⟨f, by omega⟩
theorem modeT_len8 (m : Nat) (si : Bool) : (modeT m si).length ≤ 13 := by
 unfold modeT silB
 repeat' split
 all_goals decide
theorem printL_len8 {l : List R} (hb : ∀ r ∈ l, r.1 ≤ 4294967295 ∧ r.2 ≤ 4294967295) : (printL l).length ≤ 22 * l.length := by
 have := printL_len l hb l.length (Nat.le_refl _)
 rwa [List.take_length] at this
theorem bsz (l : List UInt8) : (ByteArray.mk l.toArray).size = l.length := by show l.toArray.size = _; simp
def Sent (T : List UInt8) (k : Nat) : Prop := ∃ fs, Runs (T ++ [13, 10]) 0 (fs ++ [⟨1, T⟩]) [] 0 ∧ fs.length = k
theorem Sent.det {T : List UInt8} {j k : Nat} (h : Sent T j) (h2 : Sent T k) : j = k := by
 obtain ⟨fs, h, rfl⟩ := h
 obtain ⟨gs, h2, rfl⟩ := h2
 have d : Done ([] : List UInt8) 0 := endOf_past (by simp)
 obtain ⟨e, _, _⟩ := h.det d h2 d
 have := congrArg List.length e
 simp at this
 exact this
theorem sent_iff {T R : List UInt8} {k : Nat} {fs : List Fr} (h : Runs (T ++ [13, 10]) 0 fs R k) (d : Done R k) :
 (R.length = 0 ∧ ∃ (hl : 0 < fs.length), fs[fs.length - 1].kind = 1 ∧ fs[fs.length - 1].data = T) ↔ Sent T (fs.length - 1) := by
 constructor
 · rintro ⟨hR, hl, hk, hd⟩
   have hR0 : R = [] := List.length_eq_zero_iff.1 hR
   subst hR0
   have hk0 : k = 0 := h.empty (fun e => by simp at e)
   subst hk0
   refine ⟨fs.dropLast, ?_, by simp⟩
   have e : fs = fs.dropLast ++ [⟨1, T⟩] := by
    have hne : fs ≠ [] := List.length_pos_iff.1 hl
    have e0 := List.dropLast_concat_getLast hne
    rw [List.getLast_eq_getElem] at e0
    have e1 : fs[fs.length - 1] = ⟨1, T⟩ := by
     cases hx : fs[fs.length - 1] with
     | mk kd dt =>
       rw [hx] at hk hd
       simp only at hk hd
       rw [hk, hd]
    rw [e1] at e0
    exact e0.symm
   rw [← e]
   exact h
 · rintro ⟨gs, hg, _⟩
   have d0 : Done ([] : List UInt8) 0 := endOf_past (by simp)
   obtain ⟨rfl, rfl, _⟩ := h.det d hg d0
   refine ⟨rfl, by simp, ?_, ?_⟩ <;> simp
theorem sent_any {T R : List UInt8} {k j : Nat} {fs : List Fr} (h : Runs (T ++ [13, 10]) 0 fs R k) (d : Done R k) (hs : Sent T j) : j = fs.length - 1 := by
 obtain ⟨gs, hg, rfl⟩ := hs
 have d0 : Done ([] : List UInt8) 0 := endOf_past (by simp)
 obtain ⟨rfl, _, _⟩ := h.det d hg d0
 simp
theorem validC_int {a : CI} (h : validC a = true) : 1 ≤ a.kind ∧ a.kind ≤ 8 ∧ 0 ≤ a.items ∧ a.items ≤ 31 ∧ 0 ≤ a.mode ∧ a.mode ≤ 2 := by
 obtain ⟨tag, kind, mbox, set, items, mode, silent, flags, data⟩ := a
 have hk : 1 ≤ kind ∧ kind ≤ 8 := by
  unfold validC at h
  simp only [Bool.and_eq_true] at h
  have h1 := h.1
  unfold okC at h1
  simp only at h1
  split at h1
  · omega
  · split at h1
    · omega
    · simp at h1; omega
 have hc : kind = 1 ∨ kind = 2 ∨ kind = 3 ∨ kind = 4 ∨ kind = 5 ∨ kind = 6 ∨ kind = 7 ∨ kind = 8 := by omega
 rcases hc with rfl | rfl | rfl | rfl | rfl | rfl | rfl | rfl
 all_goals
  simp [validC, okC, ownC, sameC] at h
  simp
  omega
theorem textT_len {a : CI} (f0 : 0 ≤ a.flags) (f1 : a.flags ≤ 31) (i0 : 0 ≤ a.items) (i1 : a.items ≤ 31) (hb : ∀ r ∈ a.set, r.1 ≤ 4294967295 ∧ r.2 ≤ 4294967295) (l0 : a.tag.length ≤ 100000) (l3 : a.mbox.length ≤ 100000) (l1 : a.set.length ≤ 10000) (l2 : a.data.length ≤ 100000) : (textT a).length ≤ 900000 := by
 have h1 := verbZ_len a.kind
 have h2 := mboxT_len (b := a.mbox) (by omega)
 have h3 := printL_len8 hb
 have h4 := lit_len8 (b := a.data) (by omega)
 have h5 := listL_len8 (f := a.flags.toNat) (by omega)
 have h6 := itemsT_len8 (f := a.items.toNat) (by omega)
 have h7 := modeT_len8 a.mode.toNat a.silent
 unfold textT restT
 simp only [List.length_append, List.length_cons]
 repeat' split
 all_goals (simp only [List.length_append, List.length_cons, List.length_nil]; omega)
def PrPost (a : CI) (w : World) (e : Ending) (w' : World) : Prop :=
 ((validC a = true ∧ ∃ k, Sent (textT a) k) ∧ ∃ A c, e = .returned (.tuple #[.slice A (textT a ++ [13, 10]).length c, .bool true]) ∧ ByAt w'.heap.size w' A c (textT a ++ [13, 10]) ∧ Below w.heap.size w w') ∨
 (¬ (validC a = true ∧ ∃ k, Sent (textT a) k) ∧ e = .returned (.tuple #[.slice none 0 0, .bool false]) ∧ Below w.heap.size w w')
def LitN (a : CI) (k : Nat) : Prop := (validC a = true ∧ Sent (textT a) k) ∨ (¬ (validC a = true ∧ ∃ j, Sent (textT a) j) ∧ k = 0)
theorem LitN.det {a : CI} {j k : Nat} (h : LitN a j) (h2 : LitN a k) : j = k := by
 rcases h with ⟨h0, h⟩ | ⟨h, rfl⟩
 · rcases h2 with ⟨_, h2⟩ | ⟨h2, _⟩
   · exact h.det h2
   · exact absurd ⟨h0, j, h⟩ h2
 · rcases h2 with ⟨h0, h2⟩ | ⟨_, rfl⟩
   · exact absurd ⟨h0, k, h2⟩ h
   · rfl
end
theorem step_suf {R R' : List UInt8} {k k' : Nat} {f : Fr} (h : stepF R k = some (f, R', k')) : ∃ j, R' = R.drop j := by
 unfold stepF at h
 cases he : ZK R k with
 | none => rw [he] at h; cases h
 | some e =>
   rw [he] at h
   simp only at h
   split at h
   · injection h with h; injection h with _ h; injection h with h _
     exact ⟨_, h.symm⟩
   · split at h
     · injection h with h; injection h with _ h; injection h with h _
       exact ⟨_, h.symm⟩
     · split at h
       · injection h with h; injection h with _ h; injection h with h _
         exact ⟨_, h.symm⟩
       · injection h with h; injection h with _ h; injection h with h _
         exact ⟨0, by rw [← h]; rfl⟩
theorem runs_suf {R R' : List UInt8} {k k' : Nat} {fs : List Fr} (h : Runs R k fs R' k') : ∃ j, R' = R.drop j := by
 induction h with
 | nil => exact ⟨0, rfl⟩
 | cons hs _ ih =>
   obtain ⟨j, rfl⟩ := step_suf hs
   obtain ⟨i, hi⟩ := ih
   exact ⟨j + i, by rw [hi, List.drop_drop]⟩
theorem mark_end (X : List UInt8) : Mark (X ++ [13, 10]) X.length := by
 unfold Mark
 constructor <;> simp
theorem short_crlf (T : List UInt8) : Short (T ++ [13, 10]) := by
 intro fs R k hr he
 obtain ⟨j, rfl⟩ := runs_suf hr
 by_cases hj : j ≤ T.length
 · rw [List.drop_append_of_le_length hj] at he ⊢
   rw [endOf_none] at he
   have h := mark_end (T.drop j)
   by_cases hk : k ≤ (T.drop j).length
   · exact absurd h (he _ hk)
   · rw [List.length_append]
     simp only [List.length_cons, List.length_nil]
     omega
 · rw [List.length_drop, List.length_append]
   simp only [List.length_cons, List.length_nil]
   omega
theorem some_frame {T R : List UInt8} {k : Nat} {fs : List Fr} (h : Runs (T ++ [13, 10]) 0 fs R k) (d : Done R k) : 0 < fs.length := by
 cases h with
 | nil =>
   unfold Done at d
   rw [endOf_none] at d
   exact absurd (mark_end T) (d _ (Nat.zero_le _))
 | cons _ _ => simp
end Go.Proofs.YtpgfnlhfciacoaaGreatDoor
