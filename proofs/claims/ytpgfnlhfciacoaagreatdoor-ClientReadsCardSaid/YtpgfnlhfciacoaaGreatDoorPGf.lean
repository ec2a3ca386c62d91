import Derived.Test.YtpgfnlhfciacoaaGreatDoorPGc
import Derived.Lib.IndexMore
import Derived.Deep.Upon
import Derived.Lib.SlFresh
import Derived.Test.YtpgfnlhfciacoaaGreatDoorShelfI
import Derived.Deep.RegionWith
import Derived.Deep.DeepCutAuto
import Derived.Lib.SlBytesConst
import Derived.BigRegion
import Derived.Deep.RegionHeld3
set_option maxRecDepth 100000
set_option maxHeartbeats 2000000
open Go.Lib renaming hid → Hi
namespace Go.Proofs.YtpgfnlhfciacoaaGreatDoor
section
open Go.RowKit
open Go.Lib hiding intOf
theorem ref_ann_of {l : List UInt8} {p m n : Nat} (hlen : l.length = m + 1) (hk : p + 1 ≤ m) (h123 : l[p]? = some 123) (h125 : l[m]? = some 125) (hn : QH ((l.take m).drop (p + 1)) = some n) : AnnL l n := by
 obtain ⟨h1, h2⟩ := numOf_some hn
 refine ⟨h1, l.take p, ?_⟩
 rw [h2]
 obtain ⟨hp, hpe⟩ := List.getElem?_eq_some_iff.1 h123
 obtain ⟨hm, hme⟩ := List.getElem?_eq_some_iff.1 h125
 have e1 : l = l.take m ++ [125] := by
  conv => lhs; rw [← List.take_append_drop m l, List.drop_eq_getElem_cons hm, hme, List.drop_eq_nil_of_le (by omega)]
 have e2 : l.take m = l.take p ++ 123 :: (l.take m).drop (p + 1) := by
  conv => lhs; rw [← List.take_append_drop p (l.take m), List.take_take, Nat.min_eq_left (by omega), List.drop_eq_getElem_cons (by rw [List.length_take]; omega), List.getElem_take, hpe]
 conv => lhs; rw [e1, e2]
 simp
end
section
open Go.Lib hiding intOf
def Mark (b : List UInt8) (j : Nat) : Prop := b[j]? = some 13 ∧ b[j + 1]? = some 10
instance (b : List UInt8) (j : Nat) : Decidable (Mark b j) := by unfold Mark; infer_instance
def ZK (b : List UInt8) (k : Nat) : Option Nat := (List.range b.length).find? fun i => decide (k ≤ i ∧ Mark b i)
theorem Mark.lt {b : List UInt8} {j : Nat} (h : Mark b j) : j + 1 < b.length := (List.getElem?_eq_some_iff.1 h.2).1
theorem endOf_some {b : List UInt8} {k e : Nat} : ZK b k = some e ↔ k ≤ e ∧ Mark b e ∧ ∀ j, k ≤ j → j < e → ¬ Mark b j := by
 unfold ZK
 rw [List.find?_range_eq_some]
 constructor
 · rintro ⟨h1, h2, h3⟩
   simp at h1
   refine ⟨h1.1, h1.2, fun j hk hj hm => ?_⟩
   have := h3 j hj
   simp [hk, hm] at this
 · rintro ⟨h1, h2, h3⟩
   refine ⟨by simp [h1, h2], by have := h2.lt; simp; omega, fun j hj => ?_⟩
   by_cases hk : k ≤ j
   · simp [hk, h3 j hk hj]
   · simp [hk]
theorem endOf_none {b : List UInt8} {k : Nat} : ZK b k = none ↔ ∀ j, k ≤ j → ¬ Mark b j := by
 unfold ZK
 rw [List.find?_range_eq_none]
 constructor
 · intro h j hk hm
   have := h j (by have := hm.lt; omega)
   simp [hk, hm] at this
 · intro h j _
   by_cases hk : k ≤ j
   · simp [hk, h j hk]
   · simp [hk]
theorem mark_append {b p : List UInt8} {j : Nat} (h : j + 1 < b.length) : Mark (b ++ p) j ↔ Mark b j := by
 unfold Mark
 rw [List.getElem?_append_left (by omega), List.getElem?_append_left h]
theorem endOf_append {b : List UInt8} {k e : Nat} (p : List UInt8) (h : ZK b k = some e) : ZK (b ++ p) k = some e := by
 rw [endOf_some] at h ⊢
 obtain ⟨h1, h2, h3⟩ := h
 have := h2.lt
 exact ⟨h1, (mark_append this).2 h2, fun j hk hj hm => h3 j hk hj ((mark_append (by omega)).1 hm)⟩
theorem endOf_skip {b : List UInt8} {k a : Nat} (hk : k ≤ a) (h : ∀ j, k ≤ j → j < a → ¬ Mark b j) : ZK b k = ZK b a := by
 cases he : ZK b a with
 | none =>
   rw [endOf_none] at he ⊢
   intro j hj
   by_cases hja : j < a
   · exact h j hj hja
   · exact he j (by omega)
 | some e =>
   rw [endOf_some] at he ⊢
   obtain ⟨h1, h2, h3⟩ := he
   refine ⟨by omega, h2, fun j hj hje => ?_⟩
   by_cases hja : j < a
   · exact h j hj hja
   · exact h3 j (by omega) hje
theorem endOf_lt {b : List UInt8} {k e : Nat} (h : ZK b k = some e) : k ≤ e ∧ e + 1 < b.length := by
 rw [endOf_some] at h
 exact ⟨h.1, h.2.1.lt⟩
theorem endOf_past {b : List UInt8} {k : Nat} (h : b.length < k + 2) : ZK b k = none := by
 rw [endOf_none]
 intro j hj hm
 have := hm.lt
 omega
def annOf (l : List UInt8) : Option Nat :=
 (List.range l.length).findSome? fun k => if l[k]? = some 123 ∧ l[l.length - 1]? = some 125 then QH ((l.take (l.length - 1)).drop (k + 1)) else none
theorem isAnn_of (l : List UInt8) : IsAnn l (annOf l) := by
 cases h : annOf l with
 | some n =>
   unfold annOf at h
   obtain ⟨k, hk, h1⟩ := List.exists_of_findSome?_eq_some h
   split at h1
   · rename_i hc
     obtain ⟨h2, h3⟩ := hc
     have hlt : k < l.length := by simpa using hk
     have hne : k ≠ l.length - 1 := by
      intro e
      rw [e, h3] at h2
      cases h2
     exact ref_ann_of (m := l.length - 1) (by omega) (by omega) h2 h3 h1
   · cases h1
 | none =>
   intro n hn
   unfold annOf at h
   rw [List.findSome?_eq_none_iff] at h
   have hn' := hn
   obtain ⟨hle, pre, rfl⟩ := hn
   have hlen : (pre ++ 123 :: (decDigits n ++ [125])).length - 1 = pre.length + 1 + (decDigits n).length := by simp; omega
   have h1 := h pre.length (by simp)
   have h125 := ann_last hn' (m := pre.length + 1 + (decDigits n).length) (by simp; omega)
   rw [hlen, if_pos ⟨by simp, h125⟩] at h1
   have e : pre ++ 123 :: (decDigits n ++ [125]) = (pre ++ 123 :: decDigits n) ++ [125] := by simp
   have el : (pre ++ 123 :: decDigits n).length = pre.length + 1 + (decDigits n).length := by simp; omega
   rw [e, ← el, List.take_left', show pre ++ 123 :: decDigits n = (pre ++ [123]) ++ decDigits n by simp, show pre.length + 1 = (pre ++ [123]).length by simp, List.drop_left, numOf_dec hle] at h1
   · cases h1
   · rfl
theorem annOf_le {l : List UInt8} {n : Nat} (h : annOf l = some n) : n ≤ 4294967295 := by
 have := isAnn_of l
 rw [h] at this
 exact isAnn_le this
structure Fr where
 kind : Nat
 data : List UInt8
def stepF (R : List UInt8) (k : Nat) : Option (Fr × List UInt8 × Nat) :=
 match ZK R k with
 | none => none
 | some e =>
   if 8192 < e - k then some (⟨3, (R.drop k).take 8192⟩, R.drop (e + 2), 0)
   else match annOf ((R.take e).drop k) with
    | none => some (⟨1, R.take e⟩, R.drop (e + 2), 0)
    | some n => if 65536 < n then some (⟨4, R.take e⟩, R.drop (e + 2), 0) else some (⟨2, []⟩, R, e + 2 + n)
theorem stepF_wait {R : List UInt8} {k : Nat} (h : ZK R k = none) : stepF R k = none := by unfold stepF; rw [h]
theorem stepF_long {R : List UInt8} {k e : Nat} (h : ZK R k = some e) (hl : 8192 < e - k) : stepF R k = some (⟨3, (R.drop k).take 8192⟩, R.drop (e + 2), 0) := by
 unfold stepF; rw [h]; simp only; rw [if_pos hl]
theorem stepF_command {R : List UInt8} {k e : Nat} (h : ZK R k = some e) (hl : ¬ 8192 < e - k) (ha : annOf ((R.take e).drop k) = none) : stepF R k = some (⟨1, R.take e⟩, R.drop (e + 2), 0) := by
 unfold stepF; rw [h]; simp only; rw [if_neg hl, ha]
theorem stepF_big {R : List UInt8} {k e n : Nat} (h : ZK R k = some e) (hl : ¬ 8192 < e - k) (ha : annOf ((R.take e).drop k) = some n) (hn : 65536 < n) : stepF R k = some (⟨4, R.take e⟩, R.drop (e + 2), 0) := by
 unfold stepF; rw [h]; simp only; rw [if_neg hl, ha]; simp only; rw [if_pos hn]
theorem stepF_ready {R : List UInt8} {k e n : Nat} (h : ZK R k = some e) (hl : ¬ 8192 < e - k) (ha : annOf ((R.take e).drop k) = some n) (hn : ¬ 65536 < n) : stepF R k = some (⟨2, []⟩, R, e + 2 + n) := by
 unfold stepF; rw [h]; simp only; rw [if_neg hl, ha]; simp only; rw [if_neg hn]
theorem stepF_append {R R' : List UInt8} {k k' : Nat} {f : Fr} (p : List UInt8) (h : stepF R k = some (f, R', k')) : stepF (R ++ p) k = some (f, R' ++ p, k') := by
 cases he : ZK R k with
 | none => rw [stepF_wait he] at h; cases h
 | some e =>
   have hlt := endOf_lt he
   have he' := endOf_append p he
   have ht : (R ++ p).take e = R.take e := by rw [List.take_append_of_le_length (by omega)]
   have hd : (R ++ p).drop (e + 2) = R.drop (e + 2) ++ p := by rw [List.drop_append_of_le_length (by omega)]
   by_cases hl : 8192 < e - k
   · rw [stepF_long he hl] at h
     rw [stepF_long he' hl, hd]
     have : ((R ++ p).drop k).take 8192 = (R.drop k).take 8192 := by
      rw [List.drop_append_of_le_length (by omega), List.take_append_of_le_length (by rw [List.length_drop]; omega)]
     rw [this]
     simp only [Option.some.injEq, Prod.mk.injEq] at h
     obtain ⟨rfl, rfl, rfl⟩ := h
     rfl
   · cases ha : annOf ((R.take e).drop k) with
     | none =>
       rw [stepF_command he hl ha] at h
       rw [stepF_command he' hl (by rw [ht]; exact ha), hd, ht]
       simp only [Option.some.injEq, Prod.mk.injEq] at h
       obtain ⟨rfl, rfl, rfl⟩ := h
       rfl
     | some n =>
       by_cases hn : 65536 < n
       · rw [stepF_big he hl ha hn] at h
         rw [stepF_big he' hl (by rw [ht]; exact ha) hn, hd, ht]
         simp only [Option.some.injEq, Prod.mk.injEq] at h
         obtain ⟨rfl, rfl, rfl⟩ := h
         rfl
       · rw [stepF_ready he hl ha hn] at h
         rw [stepF_ready he' hl (by rw [ht]; exact ha) hn]
         simp only [Option.some.injEq, Prod.mk.injEq] at h
         obtain ⟨rfl, rfl, rfl⟩ := h
         rfl
theorem stepF_lt {R R' : List UInt8} {k k' : Nat} {f : Fr} (h : stepF R k = some (f, R', k')) : k + 2 ≤ R.length ∧ R'.length - k' + 2 ≤ R.length - k ∧ R'.length ≤ R.length ∧ f.data.length ≤ R.length := by
 cases he : ZK R k with
 | none => rw [stepF_wait he] at h; cases h
 | some e =>
   have hlt := endOf_lt he
   by_cases hl : 8192 < e - k
   · rw [stepF_long he hl] at h
     simp only [Option.some.injEq, Prod.mk.injEq] at h
     obtain ⟨rfl, rfl, rfl⟩ := h
     simp
     omega
   · cases ha : annOf ((R.take e).drop k) with
     | none =>
       rw [stepF_command he hl ha] at h
       simp only [Option.some.injEq, Prod.mk.injEq] at h
       obtain ⟨rfl, rfl, rfl⟩ := h
       simp
       omega
     | some n =>
       by_cases hn : 65536 < n
       · rw [stepF_big he hl ha hn] at h
         simp only [Option.some.injEq, Prod.mk.injEq] at h
         obtain ⟨rfl, rfl, rfl⟩ := h
         simp
         omega
       · rw [stepF_ready he hl ha hn] at h
         simp only [Option.some.injEq, Prod.mk.injEq] at h
         obtain ⟨rfl, rfl, rfl⟩ := h
         simp
         omega
inductive Runs : List UInt8 → Nat → List Fr → List UInt8 → Nat → Prop
 | nil (R : List UInt8) (k : Nat) : Runs R k [] R k
 | cons {R R' R'' : List UInt8} {k k' k'' : Nat} {f : Fr} {fs : List Fr} : stepF R k = some (f, R', k') → Runs R' k' fs R'' k'' → Runs R k (f :: fs) R'' k''
theorem Runs.trans {R R' R'' : List UInt8} {k k' k'' : Nat} {fs gs : List Fr} (h : Runs R k fs R' k') (h2 : Runs R' k' gs R'' k'') : Runs R k (fs ++ gs) R'' k'' := by
 induction h with
 | nil => exact h2
 | cons hs _ ih => exact .cons hs (ih h2)
theorem Runs.snoc {R R' R'' : List UInt8} {k k' k'' : Nat} {fs : List Fr} {f : Fr} (h : Runs R k fs R' k') (h2 : stepF R' k' = some (f, R'', k'')) : Runs R k (fs ++ [f]) R'' k'' := h.trans (.cons h2 (.nil _ _))
theorem Runs.append {R R' : List UInt8} {k k' : Nat} {fs : List Fr} (p : List UInt8) (h : Runs R k fs R' k') : Runs (R ++ p) k fs (R' ++ p) k' := by
 induction h with
 | nil => exact .nil _ _
 | cons hs _ ih => exact .cons (stepF_append p hs) ih
theorem Runs.len {R R' : List UInt8} {k k' : Nat} {fs : List Fr} (h : Runs R k fs R' k') : R'.length - k' + 2 * fs.length ≤ R.length - k ∧ R'.length ≤ R.length ∧ ∀ f ∈ fs, f.data.length ≤ R.length := by
 induction h with
 | nil => simp
 | cons hs _ ih =>
   have := stepF_lt hs
   refine ⟨by simp only [List.length_cons]; omega, by omega, fun f hf => ?_⟩
   rcases List.mem_cons.1 hf with rfl | hf
   · omega
   · have := ih.2.2 f hf
     omega
def Done (R : List UInt8) (k : Nat) : Prop := ZK R k = none
theorem Runs.det {R R1 R2 : List UInt8} {k k1 k2 : Nat} {fs gs : List Fr} (h : Runs R k fs R1 k1) (d1 : Done R1 k1) (h2 : Runs R k gs R2 k2) (d2 : Done R2 k2) : fs = gs ∧ R1 = R2 ∧ k1 = k2 := by
 induction h generalizing gs with
 | nil =>
   cases h2 with
   | nil => exact ⟨rfl, rfl, rfl⟩
   | cons hs _ => rw [stepF_wait d1] at hs; cases hs
 | cons hs _ ih =>
   cases h2 with
   | nil => rw [stepF_wait d2] at hs; cases hs
   | cons hs2 h2 =>
     rw [hs] at hs2
     simp only [Option.some.injEq, Prod.mk.injEq] at hs2
     obtain ⟨rfl, rfl, rfl⟩ := hs2
     obtain ⟨rfl, rfl, rfl⟩ := ih d1 h2
     exact ⟨rfl, rfl, rfl⟩
theorem stepF_empty {R R' : List UInt8} {k k' : Nat} {f : Fr} (hs : stepF R k = some (f, R', k')) (h0 : R' = []) : k' = 0 := by
 cases he : ZK R k with
 | none => rw [stepF_wait he] at hs; cases hs
 | some e =>
   have hlt := endOf_lt he
   by_cases hl : 8192 < e - k
   · rw [stepF_long he hl] at hs
     simp only [Option.some.injEq, Prod.mk.injEq] at hs
     exact hs.2.2.symm
   · cases ha : annOf ((R.take e).drop k) with
     | none =>
       rw [stepF_command he hl ha] at hs
       simp only [Option.some.injEq, Prod.mk.injEq] at hs
       exact hs.2.2.symm
     | some n =>
       by_cases hn : 65536 < n
       · rw [stepF_big he hl ha hn] at hs
         simp only [Option.some.injEq, Prod.mk.injEq] at hs
         exact hs.2.2.symm
       · rw [stepF_ready he hl ha hn] at hs
         simp only [Option.some.injEq, Prod.mk.injEq] at hs
         obtain ⟨_, h2, _⟩ := hs
         subst h2
         subst h0
         simp at hlt
theorem Runs.empty {R : List UInt8} {k k' : Nat} {fs : List Fr} (h : Runs R k fs [] k') (hk : R = [] → k = 0) : k' = 0 := by
 generalize hE : ([] : List UInt8) = E at h
 induction h with
 | nil => exact hk hE.symm
 | cons hs _ ih => exact ih (fun h0 => stepF_empty hs h0) hE
end
section
open Go.RowKit
structure BRow (g : Nat) (w : World) (A : Option Addr) (c : Nat) (l : List UInt8) : Prop where
 le : l.length ≤ c
 cap : c ≤ maxLen
 lies : (A = none ∧ c = 0) ∨ ∃ off cs, A = some ⟨g, off, none⟩ ∧ w.heap[g]? = some (.cells cs 5 (0, 0)) ∧ off + c ≤ cs.size ∧ ∀ j (h : j < l.length), w.cell? ⟨g, off + j, none⟩ = some (.int .u8 (l[j].toNat : Int))
section
variable {g : Nat} {w w' : World} {A : Option Addr} {c : Nat} {l : List UInt8}
theorem BRow.nil (g : Nat) (w : World) : BRow g w none 0 [] := ⟨Nat.le_refl _, Nat.zero_le _, .inl ⟨rfl, rfl⟩⟩
theorem BRow.kept (h : BRow g w A c l) (hk : g < w.heap.size → w'.heap[g]? = w.heap[g]?) : BRow g w' A c l := by
 refine ⟨h.le, h.cap, ?_⟩
 rcases h.lies with h0 | ⟨off, cs, hA, hh, hs, hc⟩
 · exact .inl h0
 · have e := hk (Array.getElem?_eq_some_iff.1 hh).1
   exact .inr ⟨off, cs, hA, e.trans hh, hs, fun j hj => (World.cell?_of_block (a := ⟨g, off + j, none⟩) e).trans (hc j hj)⟩
theorem BRow.below {B : Nat} (h : BRow g w A c l) (hb : Below B w w') (hg : g < B) : BRow g w' A c l := h.kept fun _ => hb.block g hg
theorem BRow.grow (h : BRow g w A c l) (hb : Below w.heap.size w w') : BRow g w' A c l := h.kept fun hg => hb.block g hg
theorem BRow.grown {row : Option Nat} (h : BRow g w A c l) (hb : w.grownBy w' row) (hne : some g ≠ row) : BRow g w' A c l := h.kept fun hg => hb.block g hg hne
theorem BRow.by (h : BRow g w A c l) : ByAt w.heap.size w A c l := by
 refine ⟨h.le, ?_⟩
 rcases h.lies with ⟨_, h0⟩ | ⟨off, cs, hA, hh, _, hc⟩
 · exact .inl (List.eq_nil_of_length_eq_zero (by have := h.le; omega))
 · have hg := (Array.getElem?_eq_some_iff.1 hh).1
   exact .inr ⟨g, off, hA, hg, hg, hc⟩
theorem BRow.some_of (h : BRow g w A c l) (hl : 0 < l.length) : ∃ off, A = some ⟨g, off, none⟩ := by
 rcases h.lies with ⟨_, h0⟩ | ⟨off, cs, hA, _⟩
 · have := h.le; omega
 · exact ⟨off, hA⟩
theorem BRow.drop (h : BRow g w A c l) {k : Nat} (hk : k ≤ l.length) : BRow g w (offA A c k) (c - k) (l.drop k) := by
 have hle := h.le
 have hcap := h.cap
 refine ⟨by rw [List.length_drop]; omega, by omega, ?_⟩
 rcases h.lies with ⟨rfl, rfl⟩ | ⟨off, cs, rfl, hh, hs, hc⟩
 · refine .inl ⟨?_, by omega⟩
   unfold offA
   split <;> rfl
 · refine .inr ⟨if c = k then off else off + k, cs, ?_, hh, ?_, fun j hj => ?_⟩
   · unfold offA
     split
     · rfl
     · simp [Addr.add]
   · split <;> omega
   · rw [List.length_drop] at hj
     rw [if_neg (by omega), Nat.add_assoc, hc (k + j) (by omega)]
     simp
theorem BRow.take (h : BRow g w A c l) {k : Nat} (hk : k ≤ l.length) : BRow g w A c (l.take k) := by
 refine ⟨by have := h.le; simp; omega, h.cap, ?_⟩
 rcases h.lies with h0 | ⟨off, cs, hA, hh, hs, hc⟩
 · exact .inl h0
 · refine .inr ⟨off, cs, hA, hh, hs, fun j hj => ?_⟩
   rw [List.length_take] at hj
   rw [hc j (by omega)]
   simp
theorem BRow.of_own {base n : Nat} {v : Value} (h : w.ownsRow base 5 1 v n (l.map fun x => Value.int .u8 (x.toNat : Int))) : ∃ g A c, v = .slice A n c ∧ BRow g w A c l ∧ n = l.length ∧ base ≤ g ∧ (g < w.heap.size ∨ A = none) := by
 have hn : n = l.length := by have := h.1; simp at this; omega
 subst hn
 rcases h.2 with ⟨rfl, h0⟩ | ⟨g, cap, cur, rfl, hb, hh, hnc, hcm, hsz, htk⟩
 · obtain rfl := List.eq_nil_of_length_eq_zero h0
   exact ⟨base, none, 0, rfl, BRow.nil _ _, rfl, Nat.le_refl _, .inr rfl⟩
 · refine ⟨g, _, cap, rfl, ⟨hnc, hcm, .inr ⟨0, cur, rfl, hh, by omega, fun j hj => ?_⟩⟩, rfl, hb, .inl (Array.getElem?_eq_some_iff.1 hh).1⟩
   have := h.cells (g := g) rfl j (.int .u8 (l[j].toNat : Int)) (by rw [List.getElem?_map, List.getElem?_eq_getElem hj]; rfl)
   rw [Addr.add_lit] at this
   exact this
end
theorem block_setCells {g : Nat} {t : TypeId} {fr : Nat × Nat} : ∀ (vs : List Value) (o : Nat) (w : World) (cs : Array Value), w.heap[g]? = some (.cells cs t fr) → ∃ cs', (w.setCells g o vs).heap[g]? = some (.cells cs' t fr) ∧ cs'.size = cs.size
 | [], _, _, cs, h => ⟨cs, h, rfl⟩
 | v :: r, o, w, cs, h => by
   obtain ⟨cs', h1, h2⟩ := block_setCells r (o + 1) _ _ (Joins.block_setCell (i := o) h v)
   exact ⟨cs', h1, by rw [h2]; simp⟩
theorem grown_setCells (g : Nat) : ∀ (vs : List Value) (o : Nat) (w x : World), w.grownBy x (some g) → w.grownBy (x.setCells g o vs) (some g)
 | [], _, _, _, h => h
 | v :: r, o, w, x, h => grown_setCells g r (o + 1) w _ (h.trans (ZG x g o v))
theorem append_brow (w : World) (ty : TypeId) (g : Nat) (A : Option Addr) (c n : Nat) (l : List UInt8) (h : BRow g w A c l) (hn : l.length = n) (B : Nat) (A2 : Option Addr) (c2 m : Nat) (p : List UInt8) (hp : ByAt B w A2 c2 p) (hm : p.length = m) (h63 : n + m ≤ 1000000000) :
 ∃ A' c' w' g', (Builtin.append_ #[24, 24] ty #[.slice A n c, .slice A2 m c2]).run Tryz.prog w = .ok (.slice A' (n + m) c') w' ∧ (g' = g ∨ w.heap.size ≤ g') ∧ BRow g' w' A' c' (l ++ p) ∧ w.grownBy w' (some g) := by
 subst hn hm
 have k63 : l.length + p.length ≤ maxLen := by unfold maxLen; omega
 have kby : (l.length + p.length) * 1 ≤ 140737488355328 := by omega
 obtain ⟨i0, hi, hz0, hz1, hz2⟩ := info_parts infoByte
 have hle := h.le
 have hcap := h.cap
 have h1 : ∀ u ∈ (p.map fun x => Value.int .u8 (x.toNat : Int)), u.oneCell' = true := fun u hu => by
  obtain ⟨x, _, rfl⟩ := List.mem_map.1 hu
  rfl
 have hpl : (p.map fun x => Value.int .u8 (x.toNat : Int)).length = p.length * i0.size := by rw [hz1]; simp
 have hpl1 : (p.map fun x => Value.int .u8 (x.toNat : Int)).length = p.length * 1 := by simp
 rcases A2 with _ | ad
 · have hp0 : p = [] := by
    rcases hp.lies with h0 | ⟨_, _, he, _⟩
    · exact h0
    · cases he
   subst hp0
   refine ⟨A, c, w, g, ?_, .inl rfl, by simpa using h, World.grownBy.refl _ _⟩
   simp [Builtin.append_, run_underlying Tryz.underlying24, sizeOf, typeInfo, hi, Builtin.lenOf, Builtin.firstCells, hle, storeCells]
   cases A <;> rfl
 have hnews : ∀ j u, (p.map fun x => Value.int .u8 (x.toNat : Int))[j]? = some u → w.cell? (ad.add j) = some u := fun j u hj => by
  rw [List.getElem?_map] at hj
  obtain ⟨x, hx, rfl⟩ := Option.map_eq_some_iff.1 hj
  obtain ⟨hlt, rfl⟩ := List.getElem?_eq_some_iff.1 hx
  obtain ⟨b, off, he, _, _, hc⟩ := hp.cell hlt
  obtain rfl := Option.some.inj he
  rw [Addr.add_lit]
  exact hc
 rcases h.lies with ⟨rfl, rfl⟩ | ⟨off, cs, rfl, hh, hs, hc⟩
 · obtain rfl : l = [] := List.eq_nil_of_length_eq_zero (by omega)
   have j63 : 0 + p.length ≤ maxLen := by unfold maxLen; simp only [List.length_nil] at h63; omega
   have jby : (0 + p.length) * 1 ≤ 140737488355328 := by simp only [List.length_nil] at h63; omega
   clear k63 kby
   obtain ⟨v', w', hrun, r1, r2⟩ := run_append_own (P := Tryz.prog) w w.heap.size 24 ty 5 i0 (.int .u8 0) 1 1 Tryz.underlying24 hi hz0 hz1 hz2 rfl (by decide) (.slice none 0 0) 0 [] (World.ownsRow_nil w _ _ _) ad p.length c2 _ hpl1 hnews h1 j63 jby (Nat.le_refl _)
   rw [Nat.zero_add] at r1
   obtain ⟨g', A', c', rfl, b1, _, b2, _⟩ := BRow.of_own (l := p) (by simpa using r1)
   refine ⟨A', c', w', g', by simpa using hrun, .inr b2, by simpa using b1, (r2.1).but _⟩
 · have holds : ∀ j u, (l.map fun x => Value.int .u8 (x.toNat : Int))[j]? = some u → w.cell? ((⟨g, off, none⟩ : Addr).add j) = some u := fun j u hj => by
    rw [List.getElem?_map] at hj
    obtain ⟨x, hx, rfl⟩ := Option.map_eq_some_iff.1 hj
    obtain ⟨hlt, rfl⟩ := List.getElem?_eq_some_iff.1 hx
    rw [Addr.add_lit]
    exact hc j hlt
   by_cases hroom : l.length + p.length ≤ c
   · have hcell : ∀ j, l.length + j < c → (w.cell? ⟨g, off + l.length * i0.size + j, none⟩).isSome = true := fun j hj => by
      rw [hz1, Nat.mul_one, cell_of_row w g _ _ _ _ hh, Array.getElem?_eq_getElem (by omega)]
      rfl
     have hr := run_append_room_cells (P := Tryz.prog) w 24 ty 5 i0 Tryz.underlying24 hi g off l.length c ad p.length c2 _ hpl hnews h1 hroom
      (fun j hj => hcell j (by rw [List.length_map] at hj; omega))
      (fun j hj => Joins.unfrozen_of_block hh _)
     obtain ⟨cs', q1, q2⟩ := block_setCells (p.map fun x => Value.int .u8 (x.toNat : Int)) (off + l.length * i0.size) w cs hh
     refine ⟨_, c, _, g, hr, .inl rfl, ⟨by rw [List.length_append]; omega, hcap, .inr ⟨off, cs', rfl, q1, by omega, fun j hj => ?_⟩⟩, grown_setCells g _ _ w w (World.grownBy.refl _ _)⟩
     rw [List.length_append] at hj
     by_cases hlt : j < l.length
     · rw [World.cell?_setCells_out g _ _ w _ (fun _ _ => Or.inl (by rw [hz1]; show off + j < off + l.length * 1; omega)), List.getElem_append_left hlt]
       exact hc j hlt
     · have e : off + j = off + l.length * i0.size + (j - l.length) := by rw [hz1]; omega
       rw [e, World.cell?_setCells_in g _ _ w (fun i hi => hcell i (by rw [List.length_map] at hi; omega)) (j - l.length) (by rw [List.length_map]; omega), List.getElem_append_right (by omega)]
       simp
   · obtain ⟨v', w', hrun, r1, r2⟩ := run_append_arg_grows (P := Tryz.prog) w 24 ty 5 i0 (.int .u8 0) 1 1 Tryz.underlying24 hi hz0 hz1 hz2 rfl (by decide) ⟨g, off, none⟩ l.length c _ (by simp) holds ad p.length c2 _ hpl1 hnews (by omega) k63 kby
     rw [← List.map_append] at r1
     obtain ⟨g', A', c', rfl, b1, _, b2, _⟩ := BRow.of_own r1
     exact ⟨A', c', w', g', hrun, .inr b2, b1, r2.but _⟩
structure EnvB (B : Nat) (w : World) : Prop where
 env : Env w
 mx : ∃ m, w.cell? ⟨0, 0, none⟩ = some (.int .i64 m)
 lt : 1 < B ∧ 4 < B ∧ 5 < B ∧ 0 < B
theorem EnvB.below {B : Nat} {w w' : World} (h : EnvB B w) (hb : Below B w w') : EnvB B w' := by
 obtain ⟨⟨t, ⟨a, p, s⟩, ⟨b, q, r⟩⟩, ⟨m, hm⟩, l1, l2, l3, l4⟩ := h
 exact ⟨⟨var?_below hb globTab l1 t, ⟨a, p, var?_below hb globSyn l2 s⟩, ⟨b, q, var?_below hb globRng l3 r⟩⟩, ⟨m, (hb.cell (p := ⟨0, 0, none⟩) l4).trans hm⟩, l1, l2, l3, l4⟩
theorem below_of_grown {B : Nat} {w w' : World} {r : Nat} (h : w.grownBy w' (some r)) (hr : B ≤ r) (hB : B ≤ w.heap.size) : Below B w w' :=
 ⟨h.os, h.tape, h.output, h.size, fun k hk => h.block k (by omega) (fun e => by injection e; omega)⟩
theorem EnvB.grown {B : Nat} {w w' : World} {r : Nat} (h : EnvB B w) (hg : w.grownBy w' (some r)) (hr : B ≤ r) (hB : B ≤ w.heap.size) : EnvB B w' := h.below (below_of_grown hg hr hB)
def stFn (f bs : Nat) : Value := .func (.func f) #[.pointer (some ⟨bs, 0, none⟩)] #[]
structure Raw (bs : Nat) (A : Option Addr) (n c : Nat) (ln at_ dr : Int) (fn : Value) (w : World) : Prop where
 blk : w.heap[bs]? = some (.cells #[.slice A n c, .int .i64 ln, .int .i64 at_, .int .i64 dr, fn] 132 (0, 0))
section
variable {bs n c : Nat} {A : Option Addr} {ln at_ dr : Int} {fn : Value} {w w' : World}
theorem Raw.lt (h : Raw bs A n c ln at_ dr fn w) : bs < w.heap.size := (Array.getElem?_eq_some_iff.1 h.blk).1
theorem Raw.grow (h : Raw bs A n c ln at_ dr fn w) (hb : Below w.heap.size w w') : Raw bs A n c ln at_ dr fn w' := ⟨(hb.block bs h.lt).trans h.blk⟩
theorem Raw.grown {row : Option Nat} (h : Raw bs A n c ln at_ dr fn w) (hb : w.grownBy w' row) (hne : some bs ≠ row) : Raw bs A n c ln at_ dr fn w' := ⟨(hb.block bs h.lt hne).trans h.blk⟩
theorem Raw.c0 (h : Raw bs A n c ln at_ dr fn w) : w.cell? ⟨bs, 0, none⟩ = some (.slice A n c) := cell_of_row w bs 0 _ _ _ h.blk
theorem Raw.c1 (h : Raw bs A n c ln at_ dr fn w) : w.cell? ⟨bs, 1, none⟩ = some (.int .i64 ln) := cell_of_row w bs 1 _ _ _ h.blk
theorem Raw.c2 (h : Raw bs A n c ln at_ dr fn w) : w.cell? ⟨bs, 2, none⟩ = some (.int .i64 at_) := cell_of_row w bs 2 _ _ _ h.blk
theorem Raw.c3 (h : Raw bs A n c ln at_ dr fn w) : w.cell? ⟨bs, 3, none⟩ = some (.int .i64 dr) := cell_of_row w bs 3 _ _ _ h.blk
theorem Raw.c4 (h : Raw bs A n c ln at_ dr fn w) : w.cell? ⟨bs, 4, none⟩ = some fn := cell_of_row w bs 4 _ _ _ h.blk
theorem Raw.fz (h : Raw bs A n c ln at_ dr fn w) (i : Nat) : w.frozen? ⟨bs, i, none⟩ = false := Joins.unfrozen_of_block h.blk i
theorem Raw.set0 (h : Raw bs A n c ln at_ dr fn w) (A' : Option Addr) (n' c' : Nat) : Raw bs A' n' c' ln at_ dr fn (w.setCell ⟨bs, 0, none⟩ (.slice A' n' c')) := ⟨by rw [Joins.block_setCell h.blk]; rfl⟩
theorem Raw.set1 (h : Raw bs A n c ln at_ dr fn w) (x : Int) : Raw bs A n c x at_ dr fn (w.setCell ⟨bs, 1, none⟩ (.int .i64 x)) := ⟨by rw [Joins.block_setCell h.blk]; rfl⟩
theorem Raw.set2 (h : Raw bs A n c ln at_ dr fn w) (x : Int) : Raw bs A n c ln x dr fn (w.setCell ⟨bs, 2, none⟩ (.int .i64 x)) := ⟨by rw [Joins.block_setCell h.blk]; rfl⟩
theorem Raw.set3 (h : Raw bs A n c ln at_ dr fn w) (x : Int) : Raw bs A n c ln at_ x fn (w.setCell ⟨bs, 3, none⟩ (.int .i64 x)) := ⟨by rw [Joins.block_setCell h.blk]; rfl⟩
theorem Raw.set4 (h : Raw bs A n c ln at_ dr fn w) (x : Value) : Raw bs A n c ln at_ dr x (w.setCell ⟨bs, 4, none⟩ x) := ⟨by rw [Joins.block_setCell h.blk]; rfl⟩
theorem Raw.drewN (h : Raw bs A n c ln at_ dr fn w) (k : Nat) : Raw bs A n c ln at_ dr fn (w.drewN k) := ⟨h.blk⟩
theorem Raw.drew (h : Raw bs A n c ln at_ dr fn w) : Raw bs A n c ln at_ dr fn w.drew := ⟨h.blk⟩
theorem Raw.cast (h : Raw bs A n c ln at_ dr fn w) {x y z : Int} {m : Nat} (h1 : ln = x) (h2 : at_ = y) (h3 : dr = z) (hn : n = m) : Raw bs A m c x y z fn w := by subst h1 h2 h3 hn; exact h
end
def Scan (R : List UInt8) (k a : Nat) : Prop := k ≤ a ∧ a ≤ R.length ∧ ∀ j, k ≤ j → j < a → j + 1 < R.length ∧ ¬ Mark R j
theorem Scan.endOf {R : List UInt8} {k a : Nat} (h : Scan R k a) : ZK R k = ZK R a := endOf_skip h.1 fun j h1 h2 => (h.2.2 j h1 h2).2
structure Spl (B bs g : Nat) (R : List UInt8) (k : Nat) (w : World) : Prop where
 lo : B ≤ bs ∧ B ≤ g ∧ g ≠ bs
 hi : B ≤ w.heap.size
 env : EnvB B w
 st : ∃ A c, BRow g w A c R ∧ ((∃ a : Nat, Scan R k a ∧ Raw bs A R.length c (k : Int) (a : Int) 0 (stFn 93 bs) w) ∨ (∃ ln : Int, Raw bs A R.length c ln (k : Int) 0 (stFn 134 bs) w))
def numsB (l : List UInt8) : List Int := l.map fun x => (x.toNat : Int)
theorem numsB_len (l : List UInt8) : (numsB l).length = l.length := by simp [numsB]
theorem numsB_of (l : List UInt8) : Lib.bytesOf (numsB l) = l := by
 unfold Lib.bytesOf numsB
 rw [List.map_map]
 conv => rhs; rw [← List.map_id l]
 refine List.map_congr_left fun x _ => ?_
 simp
theorem numsB_rng (l : List UInt8) : ∀ x ∈ numsB l, 0 ≤ x ∧ x < 256 := fun x hx => by
 obtain ⟨b, _, rfl⟩ := List.mem_map.1 hx
 have := b.toNat_lt
 omega
theorem numsB_at (l : List UInt8) (i : Nat) (h : i < l.length) : (numsB l).getD i 0 = (l[i].toNat : Int) := by
 unfold numsB
 rw [List.getD_eq_getElem?_getD, List.getElem?_map, List.getElem?_eq_getElem h]
 rfl
theorem index_any (B : Nat) (A : Option Addr) (c n : Nat) (l : List UInt8) (hn : l.length = n) (hl : n ≤ 1000000000) (q : Nat) (w : World) (hA : ByAt B w A c l) (hnil : A = none → c = 0) (h0 : w.cell? ⟨q, 0, none⟩ = some (.int .u8 13)) (h1 : w.cell? ⟨q, 1, none⟩ = some (.int .u8 10)) (hm : ∃ m, w.cell? ⟨0, 0, none⟩ = some (.int .i64 m)) :
 Calls Tryz.prog 104 #[.slice A n c, .slice (some ⟨q, 0, none⟩) 2 2] w fun e w' => e = .returned (.int .i64 (Lib.index l [13, 10])) ∧ Below w.heap.size w w' := by
 subst hn
 obtain ⟨m, hm⟩ := hm
 rcases A with _ | a
 · obtain rfl : l = [] := by
    rcases hA.lies with h | ⟨_, _, he, _⟩
    · exact h
    · cases he
   obtain rfl := hnil rfl
   refine (Any.bytes_Index_nil { Tryz.laysM185 with } (some ⟨q, 0, none⟩) 2 2 w (by omega) (by omega)).mono ?_
   rintro e w' ⟨rfl, hw⟩
   subst hw
   exact ⟨rfl, Below.refl _ _⟩
 · have := Any.bytes_Index_at { Tryz.laysM185 with } a ⟨q, 0, none⟩ l.length c 2 2 (numsB l) [13, 10] m w (numsB_len l) rfl (numsB_rng l) (by simp)
    (fun i hi => by
     rw [numsB_at l i hi]
     obtain ⟨b, off, he, _, _, hc⟩ := hA.cell hi
     obtain rfl := Option.some.inj he
     rw [Addr.add_lit]
     exact hc)
    (fun i hi => by
     rw [Addr.add_lit, Nat.zero_add]
     match i, hi with
     | 0, _ => exact h0
     | 1, _ => exact h1)
    hA.le (by omega) (by omega) hm
   rw [numsB_of] at this
   refine this.mono ?_
   rintro e w' ⟨rfl, k, rfl⟩
   exact ⟨rfl, ZF _ _⟩
theorem occ_mark (l : List UInt8) (i : Nat) : Lib.occAt l [13, 10] i = decide (Mark l i) := by
 unfold Lib.occAt
 rw [Bool.eq_iff_iff, List.isPrefixOf_iff_prefix, decide_eq_true_eq]
 unfold Mark
 constructor
 · rintro ⟨t, ht⟩
   have h0 : (l.drop i)[0]? = some 13 := by rw [← ht]; rfl
   have h1 : (l.drop i)[1]? = some 10 := by rw [← ht]; rfl
   rw [List.getElem?_drop] at h0 h1
   exact ⟨h0, h1⟩
 · rintro ⟨h0, h1⟩
   obtain ⟨k1, e1⟩ := List.getElem?_eq_some_iff.1 h1
   obtain ⟨k0, e0⟩ := List.getElem?_eq_some_iff.1 h0
   refine ⟨l.drop (i + 2), ?_⟩
   rw [List.drop_eq_getElem_cons k0, List.drop_eq_getElem_cons k1, e0, e1]
   rfl
theorem mark_drop (l : List UInt8) (k i : Nat) : Mark (l.drop k) i ↔ Mark l (k + i) := by
 unfold Mark
 rw [List.getElem?_drop, List.getElem?_drop, ← Nat.add_assoc]
theorem index_end (l : List UInt8) (k : Nat) : (∃ e, ZK l k = some e ∧ Lib.index (l.drop k) [13, 10] = ((e - k : Nat) : Int)) ∨ (ZK l k = none ∧ Lib.index (l.drop k) [13, 10] = -1) := by
 rcases Lib.index_spec (l.drop k) [13, 10] with ⟨h1, h2⟩ | ⟨i, h1, h2, h3, h4⟩
 · refine .inr ⟨endOf_none.2 fun j hj hm => ?_, h1⟩
   have := h2 (j - k) (by have := hm.lt; rw [List.length_drop]; omega)
   rw [occ_mark, decide_eq_false_iff_not, mark_drop, show k + (j - k) = j by omega] at this
   exact this hm
 · rw [occ_mark, decide_eq_true_eq, mark_drop] at h3
   refine .inl ⟨k + i, endOf_some.2 ⟨by omega, h3, fun j hj hji hm => ?_⟩, ?_⟩
   · have := h4 (j - k) (by omega)
     rw [occ_mark, decide_eq_false_iff_not, mark_drop, show k + (j - k) = j by omega] at this
     exact this hm
   · rw [h1]
     congr 1
     omega
theorem conv0 (w : World) (C : Array Value) (n c : Nat) : (convert 24 24 (.slice (some ⟨w.heap.size, 0, none⟩) n c)).run Tryz.prog (w.alloc (.cells C 5)) = .ok (.slice (some ⟨w.heap.size, 0, none⟩) n c) (w.alloc (.cells C 5 (C.size, C.size + 1))) :=
 Lib.run_convert_bytes_const (P := Tryz.prog) w 24 5 C n c Tryz.underlying24 Tryz.underlying5
theorem conv1 (w : World) (C : Array Value) (n c : Nat) : (convert 24 24 (.slice (some ⟨w.heap.size, 0, none⟩) n c)).run Tryz.prog (w.alloc (.cells C 5)).drew = .ok (.slice (some ⟨w.heap.size, 0, none⟩) n c) (w.alloc (.cells C 5 (C.size, C.size + 1))).drew := conv0 w.drew C n c
theorem conv2 (w : World) (C : Array Value) (n c : Nat) : (convert 24 24 (.slice (some ⟨w.heap.size, 0, none⟩) n c)).run Tryz.prog (w.alloc (.cells C 5)).drew.drew = .ok (.slice (some ⟨w.heap.size, 0, none⟩) n c) (w.alloc (.cells C 5 (C.size, C.size + 1))).drew.drew := conv0 w.drew.drew C n c
theorem row_cell (w : World) (C : Array Value) (t : TypeId) (fr : Nat × Nat) (j : Nat) : (w.alloc (.cells C t fr)).cell? ⟨w.heap.size, j, none⟩ = C[j]? := Joins.cell_alloc_mark_at w C t fr _ j rfl
def SePost (bs : Nat) (A : Option Addr) (n c : Nat) (ln : Int) (a : Nat) (dr : Int) (fn : Value) (R : List UInt8) (w : World) (e' : Ending) (w' : World) : Prop :=
 (∃ e : Nat, ZK R a = some e ∧ e' = .returned (.bool true) ∧ Raw bs A n c ln (e : Int) dr fn w' ∧ w.grownBy w' (some bs)) ∨
 (∃ m : Nat, ZK R a = none ∧ e' = .returned (.bool false) ∧ Raw bs A n c ln (m : Int) dr fn w' ∧ w.grownBy w' (some bs) ∧ a ≤ m ∧ m ≤ n ∧ (m = a ∨ m + 1 = n))
theorem search_any (B bs g c : Nat) (A : Option Addr) (R : List UInt8) (ln dr : Int) (fn : Value) (a n : Nat) (hn : R.length = n) (ha : a ≤ n) (hR : n ≤ 1000000) (w : World) (hw : B ≤ w.heap.size) (henv : EnvB B w) (hb : BRow g w A c R) (h : Raw bs A n c ln (a : Int) dr fn w) :
 Calls Tryz.prog 130 #[.pointer (some ⟨bs, 0, none⟩)] w (SePost bs A n c ln a dr fn R w) := by
 have hle := hb.le
 have hI := index_end R a
 have hd := hb.drop (k := a) (by omega)
 have hnil : offA A c a = none → c - a = 0 := fun e => by
  rcases hd.lies with ⟨_, h0⟩ | ⟨_, _, h0, _⟩
  · exact h0
  · rw [h0] at e
    cases e
 generalize hX : Lib.index (R.drop a) [13, 10] = x at hI
 have IX : ∀ W q, Below w.heap.size w W → W.cell? ⟨q, 0, none⟩ = some (.int .u8 13) → W.cell? ⟨q, 1, none⟩ = some (.int .u8 10) → Calls Tryz.prog 104 #[.slice (offA A c a) (n - a) (c - a), .slice (some ⟨q, 0, none⟩) 2 2] W fun e' w' => e' = .returned (.int .i64 x) ∧ Below w.heap.size w w' := fun W q hW h0 h1 => by
  have := index_any W.heap.size (offA A c a) (c - a) (n - a) (R.drop a) (by rw [List.length_drop]; omega) (by omega) q W (hd.by.grow hW).here hnil h0 h1 (henv.below (hW.mono hw)).mx
  rw [hX] at this
  refine this.mono ?_
  rintro e' w' ⟨rfl, hb⟩
  exact ⟨rfl, YA hW hb⟩
 have IX := Hi IX
 have HI := Hi hI
 have c0 := h.c0
 have c2 := h.c2
 have hsl := fun W => slice_l A n c a (by omega) W
 have hse := fun x lo hi mx W => YY x lo hi mx W
 have kc0 := conv0
 have kc1 := conv1
 have kc2 := conv2
 have HH := Hi h
 have hbs := h.lt
 clear hI henv hb h hX hd hnil
 go_enter Tryz.func130, Tryz.ntmps130
 go_upto_region 1 with fail
 go_cut [3] (fun s3 wx => s3 = .int .i64 x ∧ Hid (Below w.heap.size w wx))
 case first =>
  go_region_with (go_at_call 104; refine (IX.out _ _ (by repeat (first | assumption | exact Below.refl _ _ | refine belDrawN ?_ _ | refine ZJ ?_ | refine ZY ?_ _)) (by first | rfl | exact row_cell _ _ _ _ _) (by first | rfl | exact row_cell _ _ _ _ _)).mono ?_; rintro e' w1 ⟨rfl, hb1⟩)
  all_goals (go_wp2_with fail; go_meet; exact ⟨rfl, hb1⟩)
 case rest =>
  obtain ⟨rfl, hB⟩ := hcut
  clear IX kc0 kc1 kc2 hsl hse c0 c2
  have H1 := Hi (HH.out.grow hB.out)
  have HG := Hi (YE (row := some bs) hB.out)
  have c0 := H1.out.c0
  have c2 := H1.out.c2
  have f2 := H1.out.fz 2
  rcases HI.out with ⟨e, he, hx⟩ | ⟨he, hx⟩
  · subst hx
    have hlt := endOf_lt he
    have e1 : ((a : Int) + ((e - a : Nat) : Int)) = (e : Int) := by omega
    have HE := Hi he
    have HS := Hi (H1.out.set2 (e : Int))
    have HS2 := Hi (YH HG.out 2 (.int .i64 (e : Int)))
    have hd : decide ((0 : Int) ≤ ((e - a : Nat) : Int)) = true := by simp
    have b1 : ((e - a : Nat) : Int) ≤ 1000000 := by omega
    have b0 : (0 : Int) ≤ ((e - a : Nat) : Int) := by omega
    rw [← e1] at HS HS2
    have E1 := Hi e1
    clear he HI HH H1 HG hB e1
    generalize ((e - a : Nat) : Int) = d at *
    go_wp2_with fail
    go_ret
    exact Or.inl ⟨e, HE.out, rfl, E1.out ▸ HS.out, E1.out ▸ HS2.out⟩
  · subst hx
    have hM : ∃ m : Nat, max (a : Int) ((n : Int) - 1) = (m : Int) ∧ a ≤ m ∧ m ≤ n ∧ (m = a ∨ m + 1 = n) := by
     rcases Nat.lt_or_ge a (n - 1) with h | h
     · exact ⟨n - 1, by omega, by omega, by omega, by omega⟩
     · exact ⟨a, by omega, by omega, by omega, by omega⟩
    have HM := Hi hM
    have HE := Hi he
    clear he hM
    go_wp2_with fail
    go_region
    obtain ⟨m, hm, h1, h2, h3⟩ := HM.out
    rw [hm]
    have HS := Hi (H1.out.set2 (m : Int)).drew
    have HS2 := Hi ((YH HG.out 2 (.int .i64 (m : Int))).trans (YE (ZJ (Below.refl _ _))))
    clear hm HI HH H1 HG hB
    go_wp2_with fail
    go_ret
    exact Or.inr ⟨m, HE.out, rfl, HS.out, HS2.out, h1, h2, h3⟩
theorem brow_empty (w : World) : BRow w.heap.size (w.alloc (.cells #[] 5)) (some ⟨w.heap.size, 0, none⟩) 0 [] :=
 ⟨Nat.le_refl _, Nat.zero_le _, .inr ⟨0, #[], rfl, YD _ _, Nat.zero_le _, fun _ hj => absurd hj (Nat.not_lt_zero _)⟩⟩
def ClPost (w : World) (l : List UInt8) (e : Ending) (w' : World) : Prop := ∃ A c g, e = .returned (.slice A l.length c) ∧ w.heap.size ≤ g ∧ BRow g w' A c l ∧ Below w.heap.size w w'
theorem clone_any (B : Nat) (a : Addr) (c n : Nat) (l : List UInt8) (hn : l.length = n) (hl : n ≤ 1000000) (w : World) (hA : ByAt B w (some a) c l) :
 Calls Tryz.prog 38 #[.slice (some a) n c] w (ClPost w l) := by
 obtain ⟨A', c', w', g', hr, hg, hb, hgr⟩ := append_brow (w.alloc (.cells #[] 5)) 24 w.heap.size _ 0 0 [] (brow_empty w) rfl w.heap.size (some a) c n l (hA.here.below (YB w _)) hn (by omega)
 rw [Nat.zero_add] at hr
 have hP : ClPost w l (.returned (.slice A' n c')) w' := by
  subst hn
  refine ⟨A', c', g', rfl, ?_, by simpa using hb, ?_⟩
  · rcases hg with rfl | hg
    · exact Nat.le_refl _
    · simp at hg; omega
  · exact (YB w _).grown hgr (by simp) (fun k hk => by injection hk with hk; omega)
 have HP := Hi hP
 have HR := Hi hr
 have q22 : ∀ (w : World) (a : Option Addr) (n c n' c' : Nat), (binOp .eql 24 (.slice a n c) (.slice none n' c')).run Tryz.prog w = .ok (.bool a.isNone) w := fun w a n c n' c' => Lib.run_eql_slice_nil w _ _ a n c n' c' Tryz.underlying24
 clear hr hb hgr hg hP hA
 go_enter Tryz.func38, Tryz.ntmps38
 go_wp2_with (at_builtin; refine Lib.wpList_append_run_sl _ rfl _ _ 24 rfl _ _ rfl rfl HR.out ?_)
 go_ret
 exact HP.out
def LastPost (bs : Nat) (A : Option Addr) (n c e : Nat) (kind : Int) (l : List UInt8) (w : World) (e' : Ending) (w' : World) : Prop :=
 ∃ A' c' g', e' = .returned (.agg #[.int .i64 kind, .slice A' l.length c']) ∧ w.heap.size ≤ g' ∧ BRow g' w' A' c' l ∧
  Raw bs (offA A c (e + 2)) (n - (e + 2)) (c - (e + 2)) 0 0 0 (stFn 93 bs) w' ∧ w.grownBy w' (some bs)
theorem last_any (bs n c : Nat) (A : Option Addr) (ln dr kind : Int) (fn : Value) (e : Nat) (he : e + 2 ≤ n) (hn : n ≤ 1000000) (w : World) (h : Raw bs A n c ln (e : Int) dr fn w)
 (a2 : Addr) (c2 m : Nat) (l : List UInt8) (hm : l.length = m) (hm2 : m ≤ 1000000) (B : Nat) (hA : ByAt B w (some a2) c2 l) :
 Calls Tryz.prog 133 #[.pointer (some ⟨bs, 0, none⟩), .int .i64 kind, .slice (some a2) m c2] w (LastPost bs A n c e kind l w) := by
 have CL := Hi (fun W (hW : Below w.heap.size w W) => clone_any _ a2 c2 m l hm hm2 W (hA.here.below hW))
 have HH := Hi h
 have hbs := h.lt
 have hsl : ∀ W, (Instr.slice 24 (.slice A n c) (some (.int .i64 ((e : Int) + 2))) none none).run Tryz.prog W = .ok (.slice (offA A c (e + 2)) (n - (e + 2)) (c - (e + 2))) W := fun W => slice_l A n c (e + 2) (by omega) W
 have hse := fun x lo hi mx W => YY x lo hi mx W
 have HM := Hi hm
 clear hA h hm
 go_enter Tryz.func133, Tryz.ntmps133
 go_wp2_with fail
 refine (CL.out _ (YB w _)).mono ?_
 rintro e' w1 ⟨A', c', g', rfl, hg, hb, hbl⟩
 rw [HM.out]
 have hb0 := YA (YB w (.cells #[.int .i64 0, .slice none 0 0] 62)) hbl
 have hb1 := YA hb0 (YB w1 (.cells #[.int .i64 kind, .slice A' m c'] 62))
 have H1 := Hi (HH.out.grow hb1)
 have HG := Hi (YE (row := some bs) hb1)
 have HB := Hi (hb.grow (YB w1 (.cells #[.int .i64 kind, .slice A' m c'] 62)))
 have HG2 := Hi hg
 have hx : w.heap.size < w1.heap.size := by have := hbl.size; simp at this; omega
 have b1 := YB w1 (.cells #[.int .i64 kind, .slice A' m c'] 62)
 have k0 : (w1.alloc (.cells #[.int .i64 kind, .slice A' m c'] 62)).heap[w.heap.size]? = some (.cells #[.int .i64 0, .slice none 0 0] 62 (0, 0)) := by
  rw [b1.block _ hx, hbl.block _ (by simp)]
  exact YD _ _
 have m0 : (w1.alloc (.cells #[.int .i64 kind, .slice A' m c'] 62)).heap[w1.heap.size]? = some (.cells #[.int .i64 kind, .slice A' m c'] 62 (0, 0)) := YD _ _
 have KX := Hi k0
 have hne : bs ≠ w.heap.size := by omega
 have hne2 : bs ≠ w1.heap.size := by omega
 have hne3 : w.heap.size ≠ w1.heap.size := by omega
 clear hb0 hb1 hb hg CL HH hbl b1
 go_wp2_with fail
 generalize w1.alloc (.cells #[.int .i64 kind, .slice A' m c'] 62) = w2 at *
 have c0 := H1.out.c0
 have c1 := H1.out.c1
 have c2' := H1.out.c2
 have c3 := H1.out.c3
 have c4 := H1.out.c4
 have f0 := H1.out.fz 0
 have f1 := H1.out.fz 1
 have f2 := H1.out.fz 2
 have f3 := H1.out.fz 3
 have f4 := H1.out.fz 4
 have kc0 : w2.cell? ⟨w.heap.size, 0, none⟩ = some (.int .i64 0) := cell_of_row _ _ 0 _ _ _ k0
 have kc1 : w2.cell? ⟨w.heap.size, 1, none⟩ = some (.slice none 0 0) := cell_of_row _ _ 1 _ _ _ k0
 have kf0 := Joins.unfrozen_of_block k0 0
 have kf1 := Joins.unfrozen_of_block k0 1
 have mc0 : w2.cell? ⟨w1.heap.size, 0, none⟩ = some (.int .i64 kind) := cell_of_row _ _ 0 _ _ _ m0
 have mc1 : w2.cell? ⟨w1.heap.size, 1, none⟩ = some (.slice A' m c') := cell_of_row _ _ 1 _ _ _ m0
 clear k0 m0
 have R4 := Hi (((((H1.out.set0 (offA A c (e + 2)) (n - (e + 2)) (c - (e + 2))).set1 0).set2 0).set3 0).set4 (stFn 93 bs))
 have G4 := Hi (YH (YH (YH (YH (YH (World.grownBy.refl w2 (some bs)) 0 (.slice (offA A c (e + 2)) (n - (e + 2)) (c - (e + 2)))) 1 (.int .i64 0)) 2 (.int .i64 0)) 3 (.int .i64 0)) 4 (stFn 93 bs))
 generalize hoff : offA A c (e + 2) = O at *
 go_region
 go_wp2_with fail
 subst hoff
 have hgs : w.heap.size + 1 ≤ g' := by have := HG2.out; simp at this; exact this
 refine bodyPost_ret (v := .agg #[.int .i64 kind, .slice A' m c']) (by simp [results, Tryz.results133, go_sem, kc0, kc1]) rfl ?_
 unfold LastPost
 rw [HM.out]
 have g1 := fun (x : World) (v u : Value) => ((YH (YH (World.grownBy.refl x (some w.heap.size)) 0 v) 1 u).trans (YE (ZJ (Below.refl _ _))) : x.grownBy _ (some w.heap.size))
 refine ⟨A', c', g', rfl, by omega, ?_, ?_, ?_⟩
 · exact ((HB.out.grown G4.out (by intro e; injection e; omega))).grown (g1 _ _ _) (by intro e; injection e; omega)
 · exact R4.out.grown (g1 _ _ _) (by intro e; injection e; omega)
 · exact ((HG.out.trans G4.out)).andThen (g1 _ _ _) (fun j hj => .inl (by injection hj; omega))
def FrD (P : Nat → Prop) (w : World) (v : Value) (l : List UInt8) : Prop := ∃ A c g, v = .slice A l.length c ∧ BRow g w A c l ∧ P g
def NxPost (B bs g : Nat) (R : List UInt8) (k : Nat) (w : World) (e' : Ending) (w' : World) : Prop :=
 (∃ f R' k' v, stepF R k = some (f, R', k') ∧ e' = .returned (.tuple #[.agg #[.int .i64 (f.kind : Int), v], .bool true]) ∧ FrD (w.heap.size ≤ ·) w' v f.data ∧ Spl B bs g R' k' w' ∧ w.grownBy w' (some bs)) ∨
 (ZK R k = none ∧ e' = .returned (.tuple #[.agg #[.int .i64 0, .slice none 0 0], .bool false]) ∧ Spl B bs g R k w' ∧ w.grownBy w' (some bs))
theorem search_yes (B bs g c : Nat) (A : Option Addr) (R : List UInt8) (ln dr : Int) (fn : Value) (a n e : Nat) (hn : R.length = n) (ha : a ≤ n) (hR : n ≤ 1000000) (w : World) (hw : B ≤ w.heap.size) (henv : EnvB B w) (hb : BRow g w A c R) (h : Raw bs A n c ln (a : Int) dr fn w) (he : ZK R a = some e) :
 Calls Tryz.prog 130 #[.pointer (some ⟨bs, 0, none⟩)] w fun e' w' => e' = .returned (.bool true) ∧ Hid (Raw bs A n c ln (e : Int) dr fn w') ∧ Hid (w.grownBy w' (some bs)) := by
 refine (search_any B bs g c A R ln dr fn a n hn ha hR w hw henv hb h).mono ?_
 rintro e' w' (⟨e2, h1, h2, h3, h4⟩ | ⟨_, h1, _⟩)
 · rw [he] at h1
   obtain rfl := Option.some.inj h1
   exact ⟨h2, h3, h4⟩
 · rw [he] at h1
   cases h1
theorem search_no (B bs g c : Nat) (A : Option Addr) (R : List UInt8) (ln dr : Int) (fn : Value) (a n : Nat) (hn : R.length = n) (ha : a ≤ n) (hR : n ≤ 1000000) (w : World) (hw : B ≤ w.heap.size) (henv : EnvB B w) (hb : BRow g w A c R) (h : Raw bs A n c ln (a : Int) dr fn w) (he : ZK R a = none) :
 Calls Tryz.prog 130 #[.pointer (some ⟨bs, 0, none⟩)] w fun e' w' => e' = .returned (.bool false) ∧ (∃ m : Nat, Hid (Raw bs A n c ln (m : Int) dr fn w') ∧ a ≤ m ∧ m ≤ n ∧ Hid (m = a ∨ m + 1 = n)) ∧ Hid (w.grownBy w' (some bs)) := by
 refine (search_any B bs g c A R ln dr fn a n hn ha hR w hw henv hb h).mono ?_
 rintro e' w' (⟨e2, h1, h2, h3, h4⟩ | ⟨m, h1, h2, h3, h4, h5, h6, h7⟩)
 · rw [he] at h1
   cases h1
 · exact ⟨h2, ⟨m, h3, h5, h6, h7⟩, h4⟩
theorem scan_more {R : List UInt8} {k a m : Nat} (h : Scan R k a) (h1 : a ≤ m) (h2 : m ≤ R.length) (h3 : m = a ∨ m + 1 = R.length) (he : ZK R k = none) : Scan R k m := by
 refine ⟨Nat.le_trans h.1 h1, h2, fun j hj hjm => ⟨?_, endOf_none.1 he j hj⟩⟩
 rcases h3 with rfl | h3
 · exact (h.2.2 j hj hjm).1
 · omega
theorem res_block {w w1 : World} {bs : Nat} (h : (w.alloc (.cells #[.int .i64 0, .slice none 0 0] 62)).grownBy w1 (some bs)) (hb : bs < w.heap.size) : w1.heap[w.heap.size]? = some (.cells #[.int .i64 0, .slice none 0 0] 62 (0, 0)) := by
 rw [h.block _ (by simp) (fun e => by injection e; omega)]
 exact YD _ _
theorem QA {w w' : World} {row : Option Nat} (h : w.grownBy w' row) (n : Nat) : w.grownBy (w'.drewN n) row := h.trans (YE (belDrawN (Below.refl _ _) n))
theorem QM {w w' : World} {row : Option Nat} (h : w.grownBy w' row) : w.grownBy w'.drew row := h.trans (YE (ZJ (Below.refl _ _)))
theorem nx_end {B bs g c n k : Nat} {A : Option Addr} {R : List UInt8} {w w1 w' : World} {o : Obj} (lo : B ≤ bs ∧ B ≤ g ∧ g ≠ bs) (hw : B ≤ w.heap.size) (hbs : bs < w.heap.size) (henv : EnvB B w) (b0 : Below w.heap.size w (w.alloc o)) (hb : BRow g w A c R) (_hn : R.length = n) (hg : (w.alloc o).grownBy w1 (some bs))
 (hst : (∃ a : Nat, Scan R k a ∧ Raw bs A R.length c (k : Int) (a : Int) 0 (stFn 93 bs) w1) ∨ (∃ ln : Int, Raw bs A R.length c ln (k : Int) 0 (stFn 134 bs) w1))
 (hk : w1.grownBy w' (some w.heap.size)) : Spl B bs g R k w' ∧ w.grownBy w' (some bs) := by
 have g0 : w.grownBy w1 (some bs) := (YE b0).trans hg
 have hz : (w.alloc o).heap.size = w.heap.size + 1 := by simp
 have g1 : w.grownBy w' (some bs) := g0.andThen hk (fun j hj => .inl (by injection hj; omega))
 refine ⟨⟨lo, Nat.le_trans hw g1.size, henv.grown g1 lo.1 hw, A, c, hb.grown g1 (by intro e; injection e; omega), ?_⟩, g1⟩
 rcases hst with ⟨a, h1, h2⟩ | ⟨ln, h2⟩
 · exact .inl ⟨a, h1, h2.grown hk (by intro e; injection e; omega)⟩
 · exact .inr ⟨ln, h2.grown hk (by intro e; injection e; omega)⟩
theorem rl_wait (B bs g c : Nat) (A : Option Addr) (R : List UInt8) (k a n : Nat) (hn : R.length = n) (hR : n ≤ 1000000) (w : World) (lo : B ≤ bs ∧ B ≤ g ∧ g ≠ bs) (hw : B ≤ w.heap.size) (henv : EnvB B w) (hb : BRow g w A c R)
 (hs : Scan R k a) (h : Raw bs A n c (k : Int) (a : Int) 0 (stFn 93 bs) w) (he : ZK R k = none) (hsh : n ≤ k + 8192) :
 Calls Tryz.prog 93 #[.pointer (some ⟨bs, 0, none⟩)] w (NxPost B bs g R k w) := by
 have hbs := h.lt
 have b0 := YB w (.cells #[.int .i64 0, .slice none 0 0] 62)
 have SE := Hi (search_no B bs g c A R (k : Int) 0 _ a n hn (by have := hs.2.1; omega) hR _ (by simp; omega) (henv.below (b0.mono hw)) (hb.grow b0) (h.grow b0) (by rw [← hs.endOf]; exact he))
 have hka := hs.1
 have HS := Hi hs
 have HE := Hi he
 have HN := Hi hn
 have HENV := Hi henv
 have HB := Hi hb
 have LO := Hi lo
 have B0 := Hi b0
 clear h hs he hn henv hb lo b0
 go_enter Tryz.func93, Tryz.ntmps93
 go_wp2_with fail
 refine SE.out.mono ?_
 rintro e' w1 ⟨rfl, ⟨m, hr, h1, h2, h3⟩, hg⟩
 have c1 := hr.out.c1
 have c2 := hr.out.c2
 have HX := Hi (res_block hg.out hbs)
 have k0 := cell_of_row _ _ 0 _ _ _ HX.out
 have k1 := cell_of_row _ _ 1 _ _ _ HX.out
 have kf0 := Joins.unfrozen_of_block HX.out 0
 have kf1 := Joins.unfrozen_of_block HX.out 1
 have hd : IntKind.i64.wrap ((m : Int) - (k : Int)) = ((m - k : Nat) : Int) := by rw [Go.IntWalk.i64_in _ (by omega)]; omega
 have ht : decide ((8192 : Int) < ((m - k : Nat) : Int)) = false := by simp; omega
 clear SE
 go_wp2_with fail
 go_quiet (fail)
 go_wp2_with fail
 refine bodyPost_ret (v := .tuple #[.agg #[.int .i64 0, .slice none 0 0], .bool false]) (by simp [results, Tryz.results93, go_sem, k0, k1]) rfl ?_
 refine Or.inr ⟨HE.out, rfl, ?_⟩
 refine nx_end (w1 := w1) LO.out hw hbs HENV.out B0.out HB.out HN.out hg.out (.inl ⟨m, scan_more HS.out h1 (by rw [HN.out]; exact h2) (by rw [HN.out]; exact h3.out) HE.out, by rw [HN.out]; exact hr.out⟩) ?_
 repeat (first | exact World.grownBy.refl _ _ | refine YH ?_ _ _ | refine QA ?_ _ | refine QM ?_)
end
end Go.Proofs.YtpgfnlhfciacoaaGreatDoor
