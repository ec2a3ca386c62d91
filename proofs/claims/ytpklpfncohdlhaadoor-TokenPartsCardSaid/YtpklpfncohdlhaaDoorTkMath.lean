/- Layer 6 in plain words: tokens, one after another; the bytes that stand for one; two commands with a space between. No walk, no program. -/
import Derived.Test.YtpklpfncohdlhaaDoorInvMath
namespace Go.Proofs.YtpklpfncohdlhaaDoor
open Go.RowKit
open Go.Lib hiding intOf

/-- A token: its kind, its text, its offset. -/
structure Tok where
  kind : Nat
  text : List UInt8
  at_ : Nat

def wordC (c : UInt8) : Bool := decide (33 ≤ c.toNat ∧ c.toNat ≤ 126 ∧ c.toNat ≠ 34 ∧ c.toNat ≠ 40 ∧ c.toNat ≠ 41 ∧ c.toNat ≠ 123)
/-- The kind of the tokens that a byte may begin; 0: none. -/
def kindN (n : Nat) : Nat := if n = 32 then 1 else if n = 40 then 2 else if n = 41 then 3 else if n = 34 then 5 else if n = 123 then 6 else if 33 ≤ n ∧ n ≤ 126 then 4 else 0
def wordR (r : List UInt8) : List UInt8 := r.takeWhile wordC
/-- The token at the front: kind, text, how many bytes. -/
def oneR (r : List UInt8) : Option (Nat × List UInt8 × Nat) :=
  match r[0]? with
  | none => none
  | some c =>
    if kindN c.toNat = 0 then none
    else if kindN c.toNat = 4 then some (4, wordR r, (wordR r).length)
    else if kindN c.toNat = 5 then (qScan (r.drop 1)).map fun t => (5, t.1, t.2 + 2)
    else if kindN c.toNat = 6 then (litO r).map fun t => (6, t.1, t.2)
    else some (kindN c.toNat, [], 1)
/-- The bytes of a token. -/
def formT (k : Nat) (x : List UInt8) : List UInt8 :=
  if k = 1 then [32] else if k = 2 then [40] else if k = 3 then [41] else if k = 4 then x else if k = 5 then (if allT x = true then quotedL x else []) else if k = 6 then literalL x else []

theorem kindN_le (n : Nat) : kindN n ≤ 6 := by unfold kindN; repeat' split
                                               all_goals omega
theorem kindN_word {c : UInt8} : kindN c.toNat = 4 ↔ wordC c = true := by
  unfold kindN wordC
  rw [decide_eq_true_iff]
  constructor
  · intro h
    repeat' split at h
    all_goals omega
  · intro h
    repeat' split
    all_goals omega
theorem word_pos {r : List UInt8} {c : UInt8} (h : r[0]? = some c) (hk : kindN c.toNat = 4) : 0 < (wordR r).length := by
  cases r with
  | nil => simp at h
  | cons d r =>
    obtain rfl : d = c := by simpa using h
    unfold wordR
    rw [List.takeWhile_cons, if_pos (kindN_word.1 hk)]
    simp
theorem word_take (r : List UInt8) : r.take (wordR r).length = wordR r := by
  obtain ⟨t, ht⟩ := List.takeWhile_prefix (p := wordC) (l := r)
  unfold wordR
  conv => lhs; rw [← ht]
  rw [List.take_append_of_le_length]
  · conv => lhs; rw [ht]
            rfl
    exact List.take_length
  · rw [ht]; exact Nat.le_refl _

/-- What was read is what is written. -/
theorem qScan_form (r P : List UInt8) (n : Nat) (h : qScan r = some (P, n)) : allT P = true ∧ r.take n = escL P := by
  induction r using qScan.induct generalizing P n with
  | case1 => cases h
  | case2 => simp [qScan] at h; obtain ⟨rfl, rfl⟩ := h; exact ⟨rfl, rfl⟩
  | case3 c h34 => rw [qScan, if_neg h34] at h; cases h
  | case4 d r => rw [qScan, if_pos rfl] at h; simp at h; obtain ⟨rfl, rfl⟩ := h; exact ⟨rfl, rfl⟩
  | case5 d r hs h34 ih =>
    rw [qScan, if_neg h34, if_pos rfl, if_pos hs] at h
    obtain ⟨p, hp, he⟩ := Option.map_eq_some_iff.1 h
    injection he with e1 e2
    subst e1; subst e2
    obtain ⟨a1, a2⟩ := ih p.1 p.2 hp
    constructor
    · show (textN d.toNat && allT p.1) = true
      rw [a1, Bool.and_true]
      unfold spN at hs
      rw [decide_eq_true_iff] at hs
      rcases hs with h | h <;> rw [h] <;> decide
    · rw [escL_cons, show escC d = [92, d] by unfold escC; rw [if_pos hs], List.take_succ_cons, List.take_succ_cons, a2]
      rfl
  | case6 d r hs h34 => rw [qScan, if_neg h34, if_pos rfl, if_neg hs] at h; cases h
  | case7 c d r h34 h92 ht ih =>
    rw [qScan, if_neg h34, if_neg h92, if_pos ht] at h
    obtain ⟨p, hp, he⟩ := Option.map_eq_some_iff.1 h
    injection he with e1 e2
    subst e1; subst e2
    obtain ⟨a1, a2⟩ := ih p.1 p.2 hp
    have hs : spN c.toNat = false := by
      unfold spN
      rw [decide_eq_false_iff_not]
      rintro (h | h)
      · exact h34 (UInt8.toNat_inj.1 h)
      · exact h92 (UInt8.toNat_inj.1 h)
    constructor
    · show (textN c.toNat && allT p.1) = true
      rw [a1, ht]; rfl
    · rw [escL_cons, show escC c = [c] by unfold escC; rw [if_neg (by simp [hs])], List.take_succ_cons, a2]
      rfl
  | case8 c d r h34 h92 ht => rw [qScan, if_neg h34, if_neg h92, if_neg ht] at h; cases h

theorem annO_form {r : List UInt8} {n j : Nat} (h : annO r = some (n, j)) : n ≤ 4294967295 ∧ j = (decDigits n).length + 2 ∧ r.take j = 123 :: (decDigits n ++ [125]) ∧ j ≤ r.length := by
  unfold annO at h
  split at h
  · rename_i h0
    split at h
    · rename_i m hm
      split at h
      · rename_i h125
        simp only [Option.some.injEq, Prod.mk.injEq] at h
        obtain ⟨rfl, rfl⟩ := h
        obtain ⟨hle, hd⟩ := numOf_some hm
        cases r with
        | nil => simp at h0
        | cons c r =>
          obtain rfl : c = 123 := by simpa using h0
          simp only [List.drop_succ_cons, List.drop_zero] at *
          obtain ⟨t, ht⟩ : dgL r <+: r := List.takeWhile_prefix _
          rw [hd]
          have hk := (List.getElem?_eq_some_iff.1 h125).1
          refine ⟨hle, rfl, ?_, ?_⟩
          · generalize dgL r = D at *
            subst ht
            cases t with
            | nil => simp at hk
            | cons y t =>
              obtain rfl : y = 125 := by
                first
                  | simpa using h125
                  | (rw [List.getElem?_append_right (Nat.le_refl _)] at h125; simpa using h125)
              rw [List.take_succ_cons, show D ++ 125 :: t = (D ++ [125]) ++ t by simp, List.take_left' (by simp)]
          · first
              | (rw [List.length_cons]; omega)
              | (simp at hk ⊢; omega)
      · cases h
    · cases h
  · cases h
theorem litO_form {r P : List UInt8} {m : Nat} (h : litO r = some (P, m)) : P.length ≤ 65536 ∧ r.take m = literalL P ∧ m ≤ r.length := by
  unfold litO at h
  split at h
  · rename_i n j ha
    split at h
    · rename_i hc
      obtain ⟨h1, h13, h10, hlen⟩ := hc
      simp only [Option.some.injEq, Prod.mk.injEq] at h
      obtain ⟨rfl, rfl⟩ := h
      obtain ⟨_, hj, ht, _⟩ := annO_form ha
      have hPl : ((r.drop (j + 2)).take n).length = n := by rw [List.length_take, List.length_drop]; omega
      refine ⟨by rw [hPl]; exact h1, ?_, hlen⟩
      unfold literalL headL
      rw [hPl]
      have e1 : r.take (j + 2) = r.take j ++ [13, 10] := by
        rw [List.take_add_one, List.take_add_one, h13, h10]
        simp
      rw [show j + 2 + n = (j + 2) + n from rfl, List.take_add, e1, ht]
      simp
    · cases h
  · cases h

theorem oneR_pos {r x : List UInt8} {k n : Nat} (h : oneR r = some (k, x, n)) : 0 < n ∧ n ≤ r.length ∧ 1 ≤ k ∧ k ≤ 6 ∧ x.length ≤ r.length ∧ r.take n = formT k x := by
  unfold oneR at h
  split at h
  · cases h
  · rename_i c hc
    have hlen : 0 < r.length := (List.getElem?_eq_some_iff.1 hc).1
    have hr0 : r.take 1 = [c] := by
      cases r with
      | nil => simp at hc
      | cons d r => obtain rfl : d = c := by simpa using hc
                    rfl
    split at h
    · cases h
    · rename_i h0
      split at h
      · rename_i h4
        simp only [Option.some.injEq, Prod.mk.injEq] at h
        obtain ⟨rfl, rfl, rfl⟩ := h
        have hle : (wordR r).length ≤ r.length := (List.takeWhile_sublist _).length_le
        refine ⟨word_pos hc h4, hle, by omega, by omega, hle, ?_⟩
        rw [word_take]
        rfl
      · rename_i h4
        split at h
        · rename_i h5
          obtain ⟨t, ht, he⟩ := Option.map_eq_some_iff.1 h
          simp only [Prod.mk.injEq] at he
          obtain ⟨rfl, rfl, rfl⟩ := he
          obtain ⟨a1, a2⟩ := qScan_form _ t.1 t.2 ht
          obtain ⟨b1, b2, _, b3⟩ := q_plain _ t.1 t.2 ht
          have hPl : t.1.length ≤ (escL t.1).length := by
            generalize t.1 = P
            induction P with
            | nil => exact Nat.le_refl _
            | cons c P ih =>
              rw [escL_cons, List.length_append, List.length_cons]
              have : 1 ≤ (escC c).length := by unfold escC; split <;> simp
              omega
          rw [List.length_drop] at b1
          rw [← a2, List.length_take, List.length_drop] at hPl
          refine ⟨by omega, by omega, by omega, by omega, by omega, ?_⟩
          have hc34 : c = 34 := by
            have h5' : c.toNat = 34 := by
              unfold kindN at h5
              repeat' split at h5
              all_goals omega
            exact UInt8.toNat_inj.1 h5'
          subst hc34
          rw [show formT 5 t.1 = quotedL t.1 by unfold formT; simp [a1]]
          unfold quotedL
          rw [← a2]
          cases r with
          | nil => simp at hc
          | cons d r =>
            obtain rfl : d = 34 := by simpa using hc
            simp only [List.drop_succ_cons, List.drop_zero] at *
            rw [show t.2 + 2 = (t.2 + 1) + 1 from rfl, List.take_succ_cons, List.take_add_one, b3]
            rfl
        · rename_i h5
          split at h
          · rename_i h6
            obtain ⟨t, ht, he⟩ := Option.map_eq_some_iff.1 h
            simp only [Prod.mk.injEq] at he
            obtain ⟨rfl, rfl, rfl⟩ := he
            obtain ⟨a1, a2, a3⟩ := litO_form ht
            have hl : t.1.length + 5 ≤ t.2 := by
              have e := congrArg List.length a2
              rw [List.length_take] at e
              have hd : 0 < (decDigits t.1.length).length := List.length_pos_iff.2 (dec_facts _).2.2
              unfold literalL headL at e
              simp at e
              omega
            refine ⟨by omega, a3, by omega, by omega, by omega, ?_⟩
            rw [a2]
            rfl
          · rename_i h6
            simp only [Option.some.injEq, Prod.mk.injEq] at h
            obtain ⟨rfl, rfl, rfl⟩ := h
            have := kindN_le c.toNat
            refine ⟨by omega, by omega, by omega, by omega, by simp, ?_⟩
            rw [hr0]
            have hcc : ∀ m : Nat, m < 256 → c.toNat = m → c = UInt8.ofNat m := fun m hm e => UInt8.toNat_inj.1 (by rw [e, UInt8.toNat_ofNat']; exact (Nat.mod_eq_of_lt hm).symm)
            have h3 : c.toNat = 32 ∨ c.toNat = 40 ∨ c.toNat = 41 := by
              unfold kindN at h0 h4 h5 h6
              repeat' split at h0
              all_goals first | omega | skip
              all_goals (simp_all)
            rcases h3 with e | e | e
            · rw [hcc 32 (by omega) e]; decide
            · rw [hcc 40 (by omega) e]; decide
            · rw [hcc 41 (by omega) e]; decide
end Go.Proofs.YtpklpfncohdlhaaDoor
