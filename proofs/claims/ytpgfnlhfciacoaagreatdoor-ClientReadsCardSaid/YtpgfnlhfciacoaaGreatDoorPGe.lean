import Derived.Test.YtpgfnlhfciacoaaGreatDoorPGu
import Derived.Test.YtpgfnlhfciacoaaGreatDoorPGv
namespace Go.Proofs.YtpgfnlhfciacoaaGreatDoor
section
open Go.RowKit
open Go.Lib hiding intOf
theorem chN_plain (c : UInt8) (r : List UInt8) (h92 : c ≠ 92) (ht : textN c.toNat = true) : chN (c :: r) = 1 ∧ chV (c :: r) = c := by
 refine ⟨?_, by unfold chV; rw [if_neg (fun e => h92 (by simpa only [List.getElem?_cons_zero, Option.some.injEq] using e))]; rfl⟩
 cases r <;> rw [chN, if_neg h92, if_pos ht]
theorem qScan_inv (b post : List UInt8) (h : allT b = true) : ZL (escL b ++ 34 :: post) = some (b, (escL b).length) := by
 induction b with
 | nil => exact q_mark _ rfl
 | cons c b ih =>
   have hc := allT_at h (c := c) (by simp)
   have hb : allT b = true := by unfold allT at h ⊢; rw [List.all_cons, Bool.and_eq_true] at h; exact h.2
   rw [escL_cons]
   by_cases hs : spN c.toNat = true
   · have e : escC c = [92, c] := by unfold escC; rw [if_pos hs]
     rw [e]
     show ZL (92 :: c :: (escL b ++ 34 :: post)) = _
     rw [ZL, if_neg (by decide), if_pos rfl, if_pos hs, ih hb]
     simp
   · have e : escC c = [c] := by unfold escC; rw [if_neg hs]
     rw [e]
     show ZL (c :: (escL b ++ 34 :: post)) = _
     have h34 : c ≠ 34 := by rintro rfl; exact hs (by decide)
     have h92 : c ≠ 92 := by rintro rfl; exact hs (by decide)
     obtain ⟨e1, e2⟩ := chN_plain c (escL b ++ 34 :: post) h92 hc
     rw [q_char _ 1 (fun e => h34 (by simpa only [List.getElem?_cons_zero, Option.some.injEq] using e)) e1 (by omega), e2]
     show (ZL (escL b ++ 34 :: post)).map _ = _
     rw [ih hb]
     simp
theorem annO_lit (n : Nat) (hn : n ≤ 4294967295) (r : List UInt8) : annO (123 :: (decDigits n ++ 125 :: r)) = some (n, (decDigits n).length + 2) := by
 unfold annO
 rw [if_pos (by simp)]
 have e1 : (123 :: (decDigits n ++ 125 :: r) : List UInt8).drop 1 = decDigits n ++ 125 :: r := rfl
 have e2 : dgL (decDigits n ++ 125 :: r) = decDigits n := takeWhile_front _ _ _ (dec_dig n) (by decide)
 rw [e1, e2, numOf_dec hn]
 simp
theorem scanL_inv (pre b post : List UInt8) (h : b.length ≤ 65536) : scanL (pre ++ YS b ++ post) (pre.length : Int) = some (b, pre.length + (YS b).length) := by
 obtain ⟨D, hD⟩ : ∃ D, decDigits b.length = D := ⟨_, rfl⟩
 have e : pre ++ YS b ++ post = pre ++ 123 :: (D ++ 125 :: (13 :: 10 :: (b ++ post))) := by
  unfold YS headL
  rw [hD]
  simp
 have ha : annX (pre ++ YS b ++ post) (pre.length : Int) = some (b.length, D.length + 2) := by
  unfold annX
  rw [if_pos (by omega)]
  show annO ((pre ++ YS b ++ post).drop pre.length) = _
  rw [e, List.drop_left, ← hD]
  exact annO_lit b.length (by omega) _
 rw [scanL_some ha]
 have e2 : pre ++ YS b ++ post = (pre ++ 123 :: (D ++ [125])) ++ 13 :: 10 :: (b ++ post) := by rw [e]; simp
 have el : (pre ++ 123 :: (D ++ [125])).length = pre.length + (D.length + 2) := by simp
 have h13 : (pre ++ YS b ++ post)[pre.length + (D.length + 2)]? = some 13 := by rw [e2, ← el]; simp
 have h10 : (pre ++ YS b ++ post)[pre.length + (D.length + 2) + 1]? = some 10 := by
  rw [e2, ← el, List.getElem?_append_right (by omega), Nat.add_sub_cancel_left]
  rfl
 have hlen : (pre ++ YS b ++ post).length = pre.length + (D.length + 2) + 2 + b.length + post.length := by rw [e2, List.length_append, el]; simp; omega
 rw [if_pos ⟨h, h13, h10, by rw [hlen]; omega⟩]
 have hdr : (pre ++ YS b ++ post).drop (pre.length + (D.length + 2) + 2) = b ++ post := by
  rw [e2, ← el, ← List.drop_drop, List.drop_left]
  rfl
 rw [hdr, List.take_left']
 · congr 2
   unfold YS headL
   rw [hD]
   simp
   omega
 · rfl
structure Tok where
 kind : Nat
 text : List UInt8
 at_ : Nat
def wordC (c : UInt8) : Bool := decide (33 ≤ c.toNat ∧ c.toNat ≤ 126 ∧ c.toNat ≠ 34 ∧ c.toNat ≠ 40 ∧ c.toNat ≠ 41 ∧ c.toNat ≠ 123)
def ZD (n : Nat) : Nat := if n = 32 then 1 else if n = 40 then 2 else if n = 41 then 3 else if n = 34 then 5 else if n = 123 then 6 else if 33 ≤ n ∧ n ≤ 126 then 4 else 0
def wordR (r : List UInt8) : List UInt8 := r.takeWhile wordC
def oneR (r : List UInt8) : Option (Nat × List UInt8 × Nat) :=
 match r[0]? with
 | none => none
 | some c =>
   if ZD c.toNat = 0 then none
   else if ZD c.toNat = 4 then some (4, wordR r, (wordR r).length)
   else if ZD c.toNat = 5 then (ZL (r.drop 1)).map fun t => (5, t.1, t.2 + 2)
   else if ZD c.toNat = 6 then (litO r).map fun t => (6, t.1, t.2)
   else some (ZD c.toNat, [], 1)
def formT (k : Nat) (x : List UInt8) : List UInt8 :=
 if k = 1 then [32] else if k = 2 then [40] else if k = 3 then [41] else if k = 4 then x else if k = 5 then (if allT x = true then quotedL x else []) else if k = 6 then YS x else []
theorem kindN_le (n : Nat) : ZD n ≤ 6 := by
  unfold ZD
  repeat' split
  all_goals omega
theorem kindN_word {c : UInt8} : ZD c.toNat = 4 ↔ wordC c = true := by
 unfold ZD wordC
 rw [decide_eq_true_iff]
 constructor
 · intro h
   repeat' split at h
   all_goals omega
 · intro h
   repeat' split
   all_goals omega
theorem word_pos {r : List UInt8} {c : UInt8} (h : r[0]? = some c) (hk : ZD c.toNat = 4) : 0 < (wordR r).length := by
 cases r with
 | nil => simp at h
 | cons d r =>
   obtain rfl : d = c := by simpa using h
   unfold wordR
   rw [List.takeWhile_cons, if_pos (kindN_word.1 hk)]
   simp
theorem word_take (r : List UInt8) : r.take (wordR r).length = wordR r := by
 obtain ⟨t, ht⟩ := List.takeWhile_prefix (p := wordC) (l := r)
 unfold wordR
 conv => lhs; rw [← ht]
 rw [List.take_append_of_le_length]
 · conv => lhs; rw [ht]
           rfl
   exact List.take_length
 · rw [ht]; exact Nat.le_refl _
theorem qScan_form (r P : List UInt8) (n : Nat) (h : ZL r = some (P, n)) : allT P = true ∧ r.take n = escL P := by
 induction r using ZL.induct generalizing P n with
 | case1 => cases h
 | case2 => simp [ZL] at h; obtain ⟨rfl, rfl⟩ := h; exact ⟨rfl, rfl⟩
 | case3 c h34 => rw [ZL, if_neg h34] at h; cases h
 | case4 d r => rw [ZL, if_pos rfl] at h; simp at h; obtain ⟨rfl, rfl⟩ := h; exact ⟨rfl, rfl⟩
 | case5 d r hs h34 ih =>
   rw [ZL, if_neg h34, if_pos rfl, if_pos hs] at h
   obtain ⟨p, hp, he⟩ := Option.map_eq_some_iff.1 h
   injection he with e1 e2
   subst e1; subst e2
   obtain ⟨a1, a2⟩ := ih p.1 p.2 hp
   constructor
   · show (textN d.toNat && allT p.1) = true
     rw [a1, Bool.and_true]
     unfold spN at hs
     rw [decide_eq_true_iff] at hs
     rcases hs with h | h <;> rw [h] <;> decide
   · rw [escL_cons, show escC d = [92, d] by unfold escC; rw [if_pos hs], List.take_succ_cons, List.take_succ_cons, a2]
     rfl
 | case6 d r hs h34 => rw [ZL, if_neg h34, if_pos rfl, if_neg hs] at h; cases h
 | case7 c d r h34 h92 ht ih =>
   rw [ZL, if_neg h34, if_neg h92, if_pos ht] at h
   obtain ⟨p, hp, he⟩ := Option.map_eq_some_iff.1 h
   injection he with e1 e2
   subst e1; subst e2
   obtain ⟨a1, a2⟩ := ih p.1 p.2 hp
   have hs : spN c.toNat = false := by
    unfold spN
    rw [decide_eq_false_iff_not]
    rintro (h | h)
    · exact h34 (UInt8.toNat_inj.1 h)
    · exact h92 (UInt8.toNat_inj.1 h)
   constructor
   · show (textN c.toNat && allT p.1) = true
     rw [a1, ht]; rfl
   · rw [escL_cons, show escC c = [c] by unfold escC; rw [if_neg (by simp [hs])], List.take_succ_cons, a2]
     rfl
 | case8 c d r h34 h92 ht => rw [ZL, if_neg h34, if_neg h92, if_neg ht] at h; cases h
theorem annO_form {r : List UInt8} {n j : Nat} (h : annO r = some (n, j)) : n ≤ 4294967295 ∧ j = (decDigits n).length + 2 ∧ r.take j = 123 :: (decDigits n ++ [125]) ∧ j ≤ r.length := by
 unfold annO at h
 split at h
 · rename_i h0
   split at h
   · rename_i m hm
     split at h
     · rename_i h125
       simp only [Option.some.injEq, Prod.mk.injEq] at h
       obtain ⟨rfl, rfl⟩ := h
       obtain ⟨hle, hd⟩ := numOf_some hm
       cases r with
       | nil => simp at h0
       | cons c r =>
         obtain rfl : c = 123 := by simpa using h0
         simp only [List.drop_succ_cons, List.drop_zero] at *
         obtain ⟨t, ht⟩ : dgL r <+: r := List.takeWhile_prefix _
         rw [hd]
         have hk := (List.getElem?_eq_some_iff.1 h125).1
         refine ⟨hle, rfl, ?_, ?_⟩
         · generalize dgL r = D at *
           subst ht
           cases t with
           | nil => simp at hk
           | cons y t =>
             obtain rfl : y = 125 := by
              first
               | simpa using h125
               | (rw [List.getElem?_append_right (Nat.le_refl _)] at h125; simpa using h125)
             rw [List.take_succ_cons, show D ++ 125 :: t = (D ++ [125]) ++ t by simp, List.take_left' (by simp)]
         · first
            | (rw [List.length_cons]; omega)
            | (simp at hk ⊢; omega)
     · cases h
   · cases h
 · cases h
theorem litO_form {r P : List UInt8} {m : Nat} (h : litO r = some (P, m)) : P.length ≤ 65536 ∧ r.take m = YS P ∧ m ≤ r.length := by
 unfold litO at h
 split at h
 · rename_i n j ha
   split at h
   · rename_i hc
     obtain ⟨h1, h13, h10, hlen⟩ := hc
     simp only [Option.some.injEq, Prod.mk.injEq] at h
     obtain ⟨rfl, rfl⟩ := h
     obtain ⟨_, hj, ht, _⟩ := annO_form ha
     have hPl : ((r.drop (j + 2)).take n).length = n := by rw [List.length_take, List.length_drop]; omega
     refine ⟨by rw [hPl]; exact h1, ?_, hlen⟩
     unfold YS headL
     rw [hPl]
     have e1 : r.take (j + 2) = r.take j ++ [13, 10] := by
      rw [List.take_add_one, List.take_add_one, h13, h10]
      simp
     rw [show j + 2 + n = (j + 2) + n from rfl, List.take_add, e1, ht]
     simp
   · cases h
 · cases h
theorem oneR_pos {r x : List UInt8} {k n : Nat} (h : oneR r = some (k, x, n)) : 0 < n ∧ n ≤ r.length ∧ 1 ≤ k ∧ k ≤ 6 ∧ x.length ≤ r.length ∧ r.take n = formT k x := by
 unfold oneR at h
 split at h
 · cases h
 · rename_i c hc
   have hlen : 0 < r.length := (List.getElem?_eq_some_iff.1 hc).1
   have hr0 : r.take 1 = [c] := by
    cases r with
    | nil => simp at hc
    | cons d r => obtain rfl : d = c := by simpa using hc
                  rfl
   split at h
   · cases h
   · rename_i h0
     split at h
     · rename_i h4
       simp only [Option.some.injEq, Prod.mk.injEq] at h
       obtain ⟨rfl, rfl, rfl⟩ := h
       have hle : (wordR r).length ≤ r.length := (List.takeWhile_sublist _).length_le
       refine ⟨word_pos hc h4, hle, by omega, by omega, hle, ?_⟩
       rw [word_take]
       rfl
     · rename_i h4
       split at h
       · rename_i h5
         obtain ⟨t, ht, he⟩ := Option.map_eq_some_iff.1 h
         simp only [Prod.mk.injEq] at he
         obtain ⟨rfl, rfl, rfl⟩ := he
         obtain ⟨a1, a2⟩ := qScan_form _ t.1 t.2 ht
         obtain ⟨b1, b2, _, b3⟩ := q_plain _ t.1 t.2 ht
         have hPl : t.1.length ≤ (escL t.1).length := by
          generalize t.1 = P
          induction P with
          | nil => exact Nat.le_refl _
          | cons c P ih =>
            rw [escL_cons, List.length_append, List.length_cons]
            have : 1 ≤ (escC c).length := by unfold escC; split <;> simp
            omega
         rw [List.length_drop] at b1
         rw [← a2, List.length_take, List.length_drop] at hPl
         refine ⟨by omega, by omega, by omega, by omega, by omega, ?_⟩
         have hc34 : c = 34 := by
          have h5' : c.toNat = 34 := by
           unfold ZD at h5
           repeat' split at h5
           all_goals omega
          exact UInt8.toNat_inj.1 h5'
         subst hc34
         rw [show formT 5 t.1 = quotedL t.1 by unfold formT; simp [a1]]
         unfold quotedL
         rw [← a2]
         cases r with
         | nil => simp at hc
         | cons d r =>
           obtain rfl : d = 34 := by simpa using hc
           simp only [List.drop_succ_cons, List.drop_zero] at *
           rw [show t.2 + 2 = (t.2 + 1) + 1 from rfl, List.take_succ_cons, List.take_add_one, b3]
           rfl
       · rename_i h5
         split at h
         · rename_i h6
           obtain ⟨t, ht, he⟩ := Option.map_eq_some_iff.1 h
           simp only [Prod.mk.injEq] at he
           obtain ⟨rfl, rfl, rfl⟩ := he
           obtain ⟨a1, a2, a3⟩ := litO_form ht
           have hl : t.1.length + 5 ≤ t.2 := by
            have e := congrArg List.length a2
            rw [List.length_take] at e
            have hd : 0 < (decDigits t.1.length).length := List.length_pos_iff.2 (dec_facts _).2.2
            unfold YS headL at e
            simp at e
            omega
           refine ⟨by omega, a3, by omega, by omega, by omega, ?_⟩
           rw [a2]
           rfl
         · rename_i h6
           simp only [Option.some.injEq, Prod.mk.injEq] at h
           obtain ⟨rfl, rfl, rfl⟩ := h
           have := kindN_le c.toNat
           refine ⟨by omega, by omega, by omega, by omega, by simp, ?_⟩
           rw [hr0]
           have hcc : ∀ m : Nat, m < 256 → c.toNat = m → c = UInt8.ofNat m := fun m hm e => UInt8.toNat_inj.1 (by rw [e, UInt8.toNat_ofNat']; exact (Nat.mod_eq_of_lt hm).symm)
           have h3 : c.toNat = 32 ∨ c.toNat = 40 ∨ c.toNat = 41 := by
            unfold ZD at h0 h4 h5 h6
            repeat' split at h0
            all_goals first | omega | skip
            all_goals (simp_all)
           rcases h3 with e | e | e
           · rw [hcc 32 (by omega) e]; decide
           · rw [hcc 40 (by omega) e]; decide
           · rw [hcc 41 (by omega) e]; decide
end
section
open Go.RowKit
inductive TRun (l : List UInt8) : Nat → List Tok → Nat → Prop
 | nil (a : Nat) : TRun l a [] a
 | cons {a n b k : Nat} {x : List UInt8} {ts : List Tok} : oneR (l.drop a) = some (k, x, n) → TRun l (a + n) ts b → TRun l a (⟨k, x, a⟩ :: ts) b
theorem TRun.snoc {l : List UInt8} {a b k n : Nat} {x : List UInt8} {ts : List Tok} (h : TRun l a ts b) (h1 : oneR (l.drop b) = some (k, x, n)) : TRun l a (ts ++ [⟨k, x, b⟩]) (b + n) := by
 induction h with
 | nil a => exact .cons h1 (.nil _)
 | cons h0 _ ih => exact .cons h0 (ih h1)
theorem TRun.trans {l : List UInt8} {a b c : Nat} {ts us : List Tok} (h : TRun l a ts b) (h1 : TRun l b us c) : TRun l a (ts ++ us) c := by
 induction h with
 | nil a => exact h1
 | cons h0 _ ih => exact .cons h0 (ih h1)
theorem TRun.le {l : List UInt8} {a b : Nat} {ts : List Tok} (h : TRun l a ts b) (ha : a ≤ l.length) : b ≤ l.length ∧ ts.length + a ≤ b := by
 induction h with
 | nil a => exact ⟨ha, by simp⟩
 | cons h0 _ ih =>
   obtain ⟨p1, p2, _⟩ := oneR_pos h0
   rw [List.length_drop] at p2
   obtain ⟨i1, i2⟩ := ih (by omega)
   exact ⟨i1, by rw [List.length_cons]; omega⟩
theorem TRun.det {l : List UInt8} {a b c : Nat} {ts us : List Tok} (h : TRun l a ts b) (hb : oneR (l.drop b) = none) (h1 : TRun l a us c) (hc : oneR (l.drop c) = none) : ts = us ∧ b = c := by
 induction h generalizing us with
 | nil a =>
   cases h1 with
   | nil => exact ⟨rfl, rfl⟩
   | cons e _ => rw [hb] at e; cases e
 | cons h0 _ ih =>
   cases h1 with
   | nil => rw [hc] at h0; cases h0
   | cons e t =>
     rw [h0] at e
     simp only [Option.some.injEq, Prod.mk.injEq] at e
     obtain ⟨rfl, rfl, rfl⟩ := e
     obtain ⟨rfl, rfl⟩ := ih hb t
     exact ⟨rfl, rfl⟩
theorem TRun.each {l : List UInt8} {a b : Nat} {ts : List Tok} (h : TRun l a ts b) (ha : a ≤ l.length) : ∀ t ∈ ts, 1 ≤ t.kind ∧ t.kind ≤ 6 ∧ t.text.length ≤ l.length ∧ t.at_ < l.length := by
 induction h with
 | nil a => intro t ht; cases ht
 | cons h0 _ ih =>
   intro t ht
   obtain ⟨p1, p2, p3, p4, p5, _⟩ := oneR_pos h0
   rw [List.length_drop] at p2 p5
   rcases List.mem_cons.1 ht with rfl | ht
   · exact ⟨p3, p4, Nat.le_trans p5 (Nat.sub_le _ _), Nat.lt_of_lt_of_le (Nat.lt_add_of_pos_right p1) (Nat.add_le_of_le_sub' ha p2)⟩
   · exact ih (by omega) t ht
def joinT (ts : List Tok) : List UInt8 := ts.flatMap fun t => formT t.kind t.text
theorem TRun.join {l : List UInt8} {a b : Nat} {ts : List Tok} (h : TRun l a ts b) : joinT ts ++ l.drop b = l.drop a := by
 induction h with
 | nil a => rfl
 | cons h0 _ ih =>
   obtain ⟨p1, p2, _, _, _, p6⟩ := oneR_pos h0
   show (formT _ _ ++ joinT _) ++ _ = _
   rw [List.append_assoc, ih, ← p6, ← List.drop_drop, List.take_append_drop]
def IsToks (l : List UInt8) (ts : List Tok) (x : Int) : Prop :=
 (∃ us, TRun l 0 us l.length ∧ ts = us ++ [⟨0, [], l.length⟩] ∧ x = -1) ∨ ∃ us k, TRun l 0 us k ∧ k < l.length ∧ oneR (l.drop k) = none ∧ ts = [] ∧ x = (k : Int)
theorem oneR_end (l : List UInt8) : oneR (l.drop l.length) = none := by rw [List.drop_length]; rfl
theorem IsToks.det {l : List UInt8} {ts us : List Tok} {x y : Int} (h : IsToks l ts x) (h1 : IsToks l us y) : ts = us ∧ x = y := by
 rcases h with ⟨a, ha, rfl, rfl⟩ | ⟨a, k, ha, hk, hn, rfl, rfl⟩
 · rcases h1 with ⟨b, hb, rfl, rfl⟩ | ⟨b, j, hb, hj, hm, rfl, rfl⟩
   · obtain ⟨rfl, _⟩ := ha.det (oneR_end l) hb (oneR_end l)
     exact ⟨rfl, rfl⟩
   · obtain ⟨_, e⟩ := ha.det (oneR_end l) hb hm
     omega
 · rcases h1 with ⟨b, hb, rfl, rfl⟩ | ⟨b, j, hb, hj, hm, rfl, rfl⟩
   · obtain ⟨_, e⟩ := ha.det hn hb (oneR_end l)
     omega
   · obtain ⟨_, rfl⟩ := ha.det hn hb hm
     exact ⟨rfl, rfl⟩
theorem IsToks.len {l : List UInt8} {ts : List Tok} {x : Int} (h : IsToks l ts x) : ts.length ≤ l.length + 1 ∧ -1 ≤ x ∧ x ≤ l.length := by
 rcases h with ⟨a, ha, rfl, rfl⟩ | ⟨a, k, ha, hk, hn, rfl, rfl⟩
 · have := (ha.le (Nat.zero_le _)).2
   rw [List.length_append, List.length_singleton]
   omega
 · simp; omega
theorem IsToks.each {l : List UInt8} {ts : List Tok} {x : Int} (h : IsToks l ts x) : ∀ t ∈ ts, t.kind ≤ 6 ∧ t.text.length ≤ l.length ∧ t.at_ ≤ l.length := by
 rcases h with ⟨a, ha, rfl, rfl⟩ | ⟨a, k, ha, hk, hn, rfl, rfl⟩
 · intro t ht
   rcases List.mem_append.1 ht with ht | ht
   · have := ha.each (Nat.zero_le _) t ht; exact ⟨this.2.1, this.2.2.1, Nat.le_of_lt this.2.2.2⟩
   · obtain rfl := List.mem_singleton.1 ht
     exact ⟨by show (0 : Nat) ≤ 6; omega, by show ([] : List UInt8).length ≤ _; simp, Nat.le_refl _⟩
 · intro t ht; cases ht
theorem IsToks.join {l : List UInt8} {ts : List Tok} (h : IsToks l ts (-1)) : joinT ts = l := by
 rcases h with ⟨a, ha, rfl, _⟩ | ⟨a, k, ha, hk, hn, rfl, e⟩
 · have := ha.join
   rw [List.drop_length, List.append_nil] at this
   show List.flatMap _ _ = _
   rw [List.flatMap_append]
   show joinT a ++ _ = _
   rw [this]
   show l ++ (formT 0 [] ++ []) = l
   simp [formT]
 · omega
theorem oneR_app {r x : List UInt8} {k n : Nat} (s : List UInt8) (h : oneR r = some (k, x, n)) : oneR (r ++ 32 :: s) = some (k, x, n) := by
 have hp := oneR_pos h
 unfold oneR at h ⊢
 split at h
 · cases h
 · rename_i c hc
   have hc' : (r ++ 32 :: s)[0]? = some c := by
    rw [List.getElem?_append_left (List.getElem?_eq_some_iff.1 hc).1]
    exact hc
   rw [hc']
   have hr : r = c :: r.tail := by
    cases r with
    | nil => simp at hc
    | cons d r => obtain rfl : d = c := by simpa using hc
                  rfl
   simp only
   split at h
   · cases h
   · rename_i h0
     rw [if_neg h0]
     split at h
     · rename_i h4
       rw [if_pos h4]
       have e : wordR (r ++ 32 :: s) = wordR r := by
        unfold wordR
        generalize r = q
        induction q with
        | nil => rfl
        | cons d q ih =>
          rw [List.cons_append, List.takeWhile_cons, List.takeWhile_cons, ih]
       rw [e]
       exact h
     · rename_i h4
       rw [if_neg h4]
       split at h
       · rename_i h5
         rw [if_pos h5]
         obtain ⟨t, ht, he⟩ := Option.map_eq_some_iff.1 h
         obtain ⟨a1, a2⟩ := qScan_form _ t.1 t.2 ht
         obtain ⟨b1, b2, _, b3⟩ := q_plain _ t.1 t.2 ht
         have hd : (r ++ 32 :: s).drop 1 = escL t.1 ++ 34 :: (r.drop (t.2 + 2) ++ 32 :: s) := by
          rw [hr] at b1 b3 a2 ⊢
          simp only [List.drop_succ_cons, List.drop_zero, List.cons_append] at *
          conv => lhs; rw [← List.take_append_drop t.2 r.tail, a2]
          rw [List.append_assoc, List.append_cancel_left_eq]
          have hlt := (List.getElem?_eq_some_iff.1 b3).1
          rw [List.drop_eq_getElem_cons hlt, (List.getElem?_eq_some_iff.1 b3).2]
          rfl
         have hn : (escL t.1).length = t.2 := by rw [← a2, List.length_take]; omega
         rw [hd, qScan_inv t.1 _ a1, hn]
         exact congrArg some he
       · rename_i h5
         rw [if_neg h5]
         split at h
         · rename_i h6
           rw [if_pos h6]
           obtain ⟨t, ht, he⟩ := Option.map_eq_some_iff.1 h
           obtain ⟨a1, a2, a3⟩ := litO_form ht
           have hd : r ++ 32 :: s = YS t.1 ++ (r.drop t.2 ++ 32 :: s) := by
            rw [← a2, ← List.append_assoc, List.take_append_drop]
           have hi := scanL_inv [] t.1 (r.drop t.2 ++ 32 :: s) a1
           rw [List.nil_append, ← hd] at hi
           unfold scanL at hi
           rw [if_pos (by simp)] at hi
           have hz : (([] : List UInt8).length : Int).toNat = 0 := rfl
           rw [hz, List.drop_zero] at hi
           obtain ⟨u, hu, hue⟩ := Option.map_eq_some_iff.1 hi
           rw [hu]
           have hl : (YS t.1).length = t.2 := by rw [← a2, List.length_take]; omega
           simp only [Prod.mk.injEq, List.length_nil, Nat.zero_add] at hue
           obtain ⟨u1, u2⟩ := u
           obtain ⟨e1, e2⟩ := hue
           simp only at e1 e2
           subst e1
           rw [hl] at e2
           subst e2
           exact congrArg some he
         · rename_i h6
           rw [if_neg h6]
           exact h
theorem TRun.app {l : List UInt8} {a b : Nat} {ts : List Tok} (h : TRun l a ts b) (ha : a ≤ l.length) (s : List UInt8) : TRun (l ++ 32 :: s) a ts b := by
 induction h with
 | nil a => exact .nil a
 | cons h0 _ ih =>
   have hp := (oneR_pos h0).2.1
   rw [List.length_drop] at hp
   exact .cons (by rw [List.drop_append_of_le_length (by omega)]; exact oneR_app s h0) (ih (by omega))
structure Cmd where
 tag : List UInt8
 kind : Nat
 mbox : List UInt8
 set : List R
 items : Nat
 mode : Nat
 silent : Bool
 flags : Nat
 data : List UInt8
def cmd0 (tag : List UInt8) : Cmd := ⟨tag, 0, [], [], 0, 0, false, 0, []⟩
def ZE (ps : List (List UInt8)) : Option Nat := if ps = [] then some 0 else namesO ps
def mbN (n : Nat) : Bool := atomN n || n == 93
def mbB (l : List UInt8) : Bool := l.all fun c => mbN c.toNat
def YG (k : Nat) : List Tok → Option (List UInt8 × List Tok)
 | t :: r => if t.kind = k then some (t.text, r) else none
 | [] => none
def YT (k : Nat) : List Tok → Bool
 | t :: _ => decide (t.kind = k)
 | [] => false
def moreO : List Tok → Option (List (List UInt8) × List Tok)
 | s :: t :: r => if s.kind = 1 then (if t.kind = 4 then (moreO r).map fun p => (t.text :: p.1, p.2) else none) else some ([], s :: t :: r)
 | [s] => if s.kind = 1 then none else some ([], [s])
 | [] => none
def QB (ts : List Tok) : Option (List (List UInt8) × List Tok) := (YG 4 ts).bind fun p => (moreO p.2).map fun q => (p.1 :: q.1, q.2)
def QF (ts : List Tok) : Option (List (List UInt8) × List Tok) :=
 (YG 2 ts).bind fun p => if YT 3 p.2 = true then (YG 3 p.2).map fun q => ([], q.2) else (QB p.2).bind fun q => (YG 3 q.2).map fun z => (q.1, z.2)
def mboxO (ts : List Tok) : Option (List UInt8 × List Tok) :=
 match ts with
 | t :: r => if t.kind = 4 then (if allL mbN t.text = true ∧ t.text.length ≤ 65536 then some (t.text, r) else none) else if (t.kind = 5 ∨ t.kind = 6) ∧ t.text.length ≤ 65536 then some (t.text, r) else none
 | [] => none
def setO (ts : List Tok) : Option (List R × List Tok) := (YG 4 ts).bind fun p => if (YP p.1).2 = true then some ((YP p.1).1, p.2) else none
def selO (c : Cmd) (ts : List Tok) : Option (Cmd × List Tok) := (YG 1 ts).bind fun p => (mboxO p.2).map fun q => ({ c with mbox := q.1 }, q.2)
def appO (c : Cmd) (ts : List Tok) : Option (Cmd × List Tok) :=
 (YG 1 ts).bind fun p => (mboxO p.2).bind fun q => (YG 1 q.2).bind fun z =>
  if YT 2 z.2 = true then (QF z.2).bind fun f => (ZE f.1).bind fun g => (YG 1 f.2).bind fun y => (YG 6 y.2).map fun d => ({ c with mbox := q.1, flags := g, data := d.1 }, d.2)
  else (YG 6 z.2).map fun d => ({ c with mbox := q.1, data := d.1 }, d.2)
def fetO (c : Cmd) (ts : List Tok) : Option (Cmd × List Tok) :=
 (YG 1 ts).bind fun p => (setO p.2).bind fun q => (YG 1 q.2).bind fun z =>
  if YT 2 z.2 = true then (QF z.2).bind fun f => (itemsO f.1).map fun i => ({ c with set := q.1, items := i }, f.2)
  else (YG 4 z.2).bind fun d => (itemsO [d.1]).map fun i => ({ c with set := q.1, items := i }, d.2)
def stoO (c : Cmd) (ts : List Tok) : Option (Cmd × List Tok) :=
 (YG 1 ts).bind fun p => (setO p.2).bind fun q => (YG 1 q.2).bind fun z => (YG 4 z.2).bind fun m => (modeL m.1).bind fun mo => (YG 1 m.2).bind fun y =>
  if YT 2 y.2 = true then (QF y.2).bind fun f => (ZE f.1).map fun g => ({ c with set := q.1, mode := mo.1, silent := mo.2, flags := g }, f.2)
  else (QB y.2).bind fun f => (ZE f.1).map fun g => ({ c with set := q.1, mode := mo.1, silent := mo.2, flags := g }, f.2)
def restC (k : Nat) (c : Cmd) (ts : List Tok) : Option (Cmd × List Tok) :=
 if k = 5 then selO c ts else if k = 6 then appO c ts else if k = 7 then fetO c ts else if k = 8 then stoO c ts else some (c, ts)
def bodyO (tag : List UInt8) (ts : List Tok) : Option Cmd :=
 (YG 4 ts).bind fun p => if YC p.1 = 0 then none else (restC (YC p.1) { cmd0 tag with kind := YC p.1 } p.2).bind fun q => (YG 0 q.2).map fun _ => q.1
inductive IsCmd (l : List UInt8) : Cmd → Bool → Prop
 | noTag : tagO l = none → IsCmd l (cmd0 []) false
 | bad {t : List UInt8} {ts : List Tok} {x : Int} : tagO l = some t → IsToks (l.drop (t.length + 1)) ts x → x ≠ -1 ∨ bodyO t ts = none → IsCmd l (cmd0 t) false
 | good {t : List UInt8} {ts : List Tok} {c : Cmd} : tagO l = some t → IsToks (l.drop (t.length + 1)) ts (-1) → bodyO t ts = some c → IsCmd l c true
theorem IsCmd.det {l : List UInt8} {c d : Cmd} {a b : Bool} (h : IsCmd l c a) (h1 : IsCmd l d b) : c = d ∧ a = b := by
 cases h with
 | noTag e => cases h1 with
   | noTag _ => exact ⟨rfl, rfl⟩
   | bad e1 _ _ => rw [e] at e1; cases e1
   | good e1 _ _ => rw [e] at e1; cases e1
 | bad e i o => cases h1 with
   | noTag e1 => rw [e] at e1; cases e1
   | bad e1 _ _ => rw [e] at e1; cases e1; exact ⟨rfl, rfl⟩
   | good e1 i1 o1 =>
     rw [e] at e1; cases e1
     obtain ⟨rfl, rfl⟩ := i.det i1
     rcases o with o | o
     · exact absurd rfl o
     · rw [o] at o1; cases o1
 | good e i o => cases h1 with
   | noTag e1 => rw [e] at e1; cases e1
   | bad e1 i1 o1 =>
     rw [e] at e1; cases e1
     obtain ⟨rfl, rfl⟩ := i.det i1
     rcases o1 with o1 | o1
     · exact absurd rfl o1
     · rw [o] at o1; cases o1
   | good e1 i1 o1 =>
     rw [e] at e1; cases e1
     obtain ⟨rfl, _⟩ := i.det i1
     rw [o] at o1; cases o1; exact ⟨rfl, rfl⟩
def TokOk (x : Tok) : Prop := 1 ≤ x.kind ∧ x.kind ≤ 6 ∧ x.text.length ≤ 9000 ∧ (x.kind = 4 → x.text ≠ [] ∧ (32 : UInt8) ∉ x.text)
def Fin (ts : List Tok) : Prop := ∃ l t, ts = l ++ [t] ∧ t.kind = 0 ∧ t.text = [] ∧ (∀ x ∈ l, TokOk x) ∧ l.length ≤ 9000
theorem Fin.ne {ts : List Tok} (h : Fin ts) : ts ≠ [] := by
 obtain ⟨l, t, rfl, _⟩ := h
 simp
theorem Fin.len {ts : List Tok} (h : Fin ts) : ts.length ≤ 9001 := by
 obtain ⟨l, t, rfl, _, _, _, hl⟩ := h
 simp; omega
theorem Fin.tail {t : Tok} {r : List Tok} (h : Fin (t :: r)) (hk : t.kind ≠ 0) : Fin r := by
 obtain ⟨l, e, he, h0, h1, ha, hl⟩ := h
 cases l with
 | nil =>
   simp at he
   obtain ⟨rfl, _⟩ := he
   exact absurd h0 hk
 | cons a l =>
   simp at he
   obtain ⟨_, rfl⟩ := he
   exact ⟨l, e, rfl, h0, h1, fun x hx => ha x (by simp [hx]), by simp at hl; omega⟩
theorem Fin.last {t : Tok} {r : List Tok} (h : Fin (t :: r)) (hk : t.kind = 0) : r = [] := by
 obtain ⟨l, e, he, h0, h1, ha, _⟩ := h
 cases l with
 | nil => simp at he; exact he.2
 | cons a l =>
   simp at he
   obtain ⟨rfl, _⟩ := he
   have := (ha t (by simp)).1
   omega
theorem Fin.mem {ts : List Tok} (h : Fin ts) {t : Tok} (ht : t ∈ ts) : t.kind ≤ 6 ∧ t.text.length ≤ 9000 ∧ (t.kind = 4 → t.text ≠ [] ∧ (32 : UInt8) ∉ t.text) := by
 obtain ⟨l, e, rfl, h0, h1, ha, _⟩ := h
 rcases List.mem_append.1 ht with ht | ht
 · exact (ha t ht).2
 · obtain rfl := List.mem_singleton.1 ht
   rw [h0, h1]
   exact ⟨by omega, by simp, fun h => by omega⟩
theorem Fin.kind {t : Tok} {r : List Tok} (h : Fin (t :: r)) : t.kind ≤ 6 := (h.mem (by simp)).1
theorem Fin.drop {p r : List Tok} (h : Fin (p ++ r)) (hr : r ≠ []) : Fin r := by
 induction p with
 | nil => exact h
 | cons a p ih =>
   by_cases h0 : a.kind = 0
   · have := h.last h0
     exact absurd (List.append_eq_nil_iff.1 this).2 hr
   · exact ih (h.tail h0)
theorem oneR_word {r x : List UInt8} {n : Nat} (h : oneR r = some (4, x, n)) : x ≠ [] ∧ x.all wordC = true := by
 unfold oneR at h
 split at h
 · cases h
 · rename_i c hc
   split at h
   · cases h
   · split at h
     · rename_i h4
       simp at h
       obtain ⟨rfl, rfl⟩ := h
       refine ⟨fun e => ?_, List.all_takeWhile⟩
       have := word_pos hc h4
       rw [e] at this
       simp at this
     · rename_i hn4
       split at h
       · simp at h
       · split at h
         · simp at h
         · simp at h; omega
theorem wordC_sp {x : List UInt8} (h : x.all wordC = true) : (32 : UInt8) ∉ x := by
 intro hm
 have := List.all_eq_true.1 h _ hm
 revert this
 decide
theorem TRun.words {l : List UInt8} {a b : Nat} {ts : List Tok} (h : TRun l a ts b) : ∀ t ∈ ts, t.kind = 4 → t.text ≠ [] ∧ t.text.all wordC = true := by
 induction h with
 | nil a => intro t ht; cases ht
 | cons h0 _ ih =>
   intro t ht
   rcases List.mem_cons.1 ht with rfl | ht
   · intro h4
     simp only at h4
     subst h4
     exact oneR_word h0
   · exact ih t ht
theorem Fin.toks {l : List UInt8} {ts : List Tok} (hl : l.length ≤ 9000) (h : IsToks l ts (-1)) : Fin ts := by
 rcases h with ⟨us, hu, rfl, _⟩ | ⟨us, k, _, _, _, _, e⟩
 · have hle := hu.le (Nat.zero_le _)
   refine ⟨us, _, rfl, rfl, rfl, fun x hx => ?_, by omega⟩
   have h1 := hu.each (Nat.zero_le _) x hx
   exact ⟨h1.1, h1.2.1, by omega, fun h4 => ⟨(hu.words x hx h4).1, wordC_sp (hu.words x hx h4).2⟩⟩
 · omega
theorem Fin.take {k : Nat} {ts r : List Tok} {x : List UInt8} (h : Fin ts) (hk : k ≠ 0) (ht : YG k ts = some (x, r)) : Fin r := by
 rcases ts with _ | ⟨t, q⟩
 · cases ht
 · by_cases e : t.kind = k
   · simp [YG, e] at ht
     obtain ⟨_, rfl⟩ := ht
     exact h.tail (by omega)
   · simp [YG, e] at ht
end
def ciOf (c : Cmd) : CI := { tag := c.tag, kind := c.kind, mbox := c.mbox, set := c.set, items := c.items, mode := c.mode, silent := c.silent, flags := c.flags, data := c.data }
end Go.Proofs.YtpgfnlhfciacoaaGreatDoor
