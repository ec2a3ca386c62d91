/- Layer 6 in plain words: the tokens of a whole command. No walk, no program. -/
import Derived.Test.YtpklpfncohdlhaaDoorTkMath
namespace Go.Proofs.YtpklpfncohdlhaaDoor
open Go.RowKit

/-- From offset a, the tokens ts, up to offset b. -/
inductive TRun (l : List UInt8) : Nat → List Tok → Nat → Prop
  | nil (a : Nat) : TRun l a [] a
  | cons {a n b k : Nat} {x : List UInt8} {ts : List Tok} : oneR (l.drop a) = some (k, x, n) → TRun l (a + n) ts b → TRun l a (⟨k, x, a⟩ :: ts) b
theorem TRun.snoc {l : List UInt8} {a b k n : Nat} {x : List UInt8} {ts : List Tok} (h : TRun l a ts b) (h1 : oneR (l.drop b) = some (k, x, n)) : TRun l a (ts ++ [⟨k, x, b⟩]) (b + n) := by
  induction h with
  | nil a => exact .cons h1 (.nil _)
  | cons h0 _ ih => exact .cons h0 (ih h1)
theorem TRun.trans {l : List UInt8} {a b c : Nat} {ts us : List Tok} (h : TRun l a ts b) (h1 : TRun l b us c) : TRun l a (ts ++ us) c := by
  induction h with
  | nil a => exact h1
  | cons h0 _ ih => exact .cons h0 (ih h1)
theorem TRun.le {l : List UInt8} {a b : Nat} {ts : List Tok} (h : TRun l a ts b) (ha : a ≤ l.length) : b ≤ l.length ∧ ts.length + a ≤ b := by
  induction h with
  | nil a => exact ⟨ha, by simp⟩
  | cons h0 _ ih =>
    obtain ⟨p1, p2, _⟩ := oneR_pos h0
    rw [List.length_drop] at p2
    obtain ⟨i1, i2⟩ := ih (by omega)
    exact ⟨i1, by rw [List.length_cons]; omega⟩
theorem TRun.det {l : List UInt8} {a b c : Nat} {ts us : List Tok} (h : TRun l a ts b) (hb : oneR (l.drop b) = none) (h1 : TRun l a us c) (hc : oneR (l.drop c) = none) : ts = us ∧ b = c := by
  induction h generalizing us with
  | nil a =>
    cases h1 with
    | nil => exact ⟨rfl, rfl⟩
    | cons e _ => rw [hb] at e; cases e
  | cons h0 _ ih =>
    cases h1 with
    | nil => rw [hc] at h0; cases h0
    | cons e t =>
      rw [h0] at e
      simp only [Option.some.injEq, Prod.mk.injEq] at e
      obtain ⟨rfl, rfl, rfl⟩ := e
      obtain ⟨rfl, rfl⟩ := ih hb t
      exact ⟨rfl, rfl⟩
/-- Each token of a run. -/
theorem TRun.each {l : List UInt8} {a b : Nat} {ts : List Tok} (h : TRun l a ts b) (ha : a ≤ l.length) : ∀ t ∈ ts, 1 ≤ t.kind ∧ t.kind ≤ 6 ∧ t.text.length ≤ l.length ∧ t.at_ < l.length := by
  induction h with
  | nil a => intro t ht; cases ht
  | cons h0 _ ih =>
    intro t ht
    obtain ⟨p1, p2, p3, p4, p5, _⟩ := oneR_pos h0
    rw [List.length_drop] at p2 p5
    rcases List.mem_cons.1 ht with rfl | ht
    · exact ⟨p3, p4, Nat.le_trans p5 (Nat.sub_le _ _), Nat.lt_of_lt_of_le (Nat.lt_add_of_pos_right p1) (Nat.add_le_of_le_sub' ha p2)⟩
    · exact ih (by omega) t ht
def joinT (ts : List Tok) : List UInt8 := ts.flatMap fun t => formT t.kind t.text
/-- The bytes of the tokens, joined. -/
theorem TRun.join {l : List UInt8} {a b : Nat} {ts : List Tok} (h : TRun l a ts b) : joinT ts ++ l.drop b = l.drop a := by
  induction h with
  | nil a => rfl
  | cons h0 _ ih =>
    obtain ⟨p1, p2, _, _, _, p6⟩ := oneR_pos h0
    show (formT _ _ ++ joinT _) ++ _ = _
    rw [List.append_assoc, ih, ← p6, ← List.drop_drop, List.take_append_drop]

/-- What Tokens answers: the tokens and -1, or none and an offset. -/
def IsToks (l : List UInt8) (ts : List Tok) (x : Int) : Prop :=
  (∃ us, TRun l 0 us l.length ∧ ts = us ++ [⟨0, [], l.length⟩] ∧ x = -1) ∨ ∃ us k, TRun l 0 us k ∧ k < l.length ∧ oneR (l.drop k) = none ∧ ts = [] ∧ x = (k : Int)
theorem oneR_end (l : List UInt8) : oneR (l.drop l.length) = none := by rw [List.drop_length]; rfl
theorem IsToks.det {l : List UInt8} {ts us : List Tok} {x y : Int} (h : IsToks l ts x) (h1 : IsToks l us y) : ts = us ∧ x = y := by
  rcases h with ⟨a, ha, rfl, rfl⟩ | ⟨a, k, ha, hk, hn, rfl, rfl⟩
  · rcases h1 with ⟨b, hb, rfl, rfl⟩ | ⟨b, j, hb, hj, hm, rfl, rfl⟩
    · obtain ⟨rfl, _⟩ := ha.det (oneR_end l) hb (oneR_end l)
      exact ⟨rfl, rfl⟩
    · obtain ⟨_, e⟩ := ha.det (oneR_end l) hb hm
      omega
  · rcases h1 with ⟨b, hb, rfl, rfl⟩ | ⟨b, j, hb, hj, hm, rfl, rfl⟩
    · obtain ⟨_, e⟩ := ha.det hn hb (oneR_end l)
      omega
    · obtain ⟨_, rfl⟩ := ha.det hn hb hm
      exact ⟨rfl, rfl⟩
theorem IsToks.len {l : List UInt8} {ts : List Tok} {x : Int} (h : IsToks l ts x) : ts.length ≤ l.length + 1 ∧ -1 ≤ x ∧ x ≤ l.length := by
  rcases h with ⟨a, ha, rfl, rfl⟩ | ⟨a, k, ha, hk, hn, rfl, rfl⟩
  · have := (ha.le (Nat.zero_le _)).2
    rw [List.length_append, List.length_singleton]
    omega
  · simp; omega
theorem IsToks.each {l : List UInt8} {ts : List Tok} {x : Int} (h : IsToks l ts x) : ∀ t ∈ ts, t.kind ≤ 6 ∧ t.text.length ≤ l.length ∧ t.at_ ≤ l.length := by
  rcases h with ⟨a, ha, rfl, rfl⟩ | ⟨a, k, ha, hk, hn, rfl, rfl⟩
  · intro t ht
    rcases List.mem_append.1 ht with ht | ht
    · have := ha.each (Nat.zero_le _) t ht; exact ⟨this.2.1, this.2.2.1, Nat.le_of_lt this.2.2.2⟩
    · obtain rfl := List.mem_singleton.1 ht
      exact ⟨by show (0 : Nat) ≤ 6; omega, by show ([] : List UInt8).length ≤ _; simp, Nat.le_refl _⟩
  · intro t ht; cases ht
/-- The tokens of a command, joined, are the command. -/
theorem IsToks.join {l : List UInt8} {ts : List Tok} (h : IsToks l ts (-1)) : joinT ts = l := by
  rcases h with ⟨a, ha, rfl, _⟩ | ⟨a, k, ha, hk, hn, rfl, e⟩
  · have := ha.join
    rw [List.drop_length, List.append_nil] at this
    show List.flatMap _ _ = _
    rw [List.flatMap_append]
    show joinT a ++ _ = _
    rw [this]
    show l ++ (formT 0 [] ++ []) = l
    simp [formT]
  · omega

/-- Whatever follows (a space in front of it), the token at the front is the same. -/
theorem oneR_app {r x : List UInt8} {k n : Nat} (s : List UInt8) (h : oneR r = some (k, x, n)) : oneR (r ++ 32 :: s) = some (k, x, n) := by
  have hp := oneR_pos h
  unfold oneR at h ⊢
  split at h
  · cases h
  · rename_i c hc
    have hc' : (r ++ 32 :: s)[0]? = some c := by
      rw [List.getElem?_append_left (List.getElem?_eq_some_iff.1 hc).1]
      exact hc
    rw [hc']
    have hr : r = c :: r.tail := by
      cases r with
      | nil => simp at hc
      | cons d r => obtain rfl : d = c := by simpa using hc
                    rfl
    simp only
    split at h
    · cases h
    · rename_i h0
      rw [if_neg h0]
      split at h
      · rename_i h4
        rw [if_pos h4]
        have e : wordR (r ++ 32 :: s) = wordR r := by
          unfold wordR
          generalize r = q
          induction q with
          | nil => rfl
          | cons d q ih =>
            rw [List.cons_append, List.takeWhile_cons, List.takeWhile_cons, ih]
        rw [e]
        exact h
      · rename_i h4
        rw [if_neg h4]
        split at h
        · rename_i h5
          rw [if_pos h5]
          obtain ⟨t, ht, he⟩ := Option.map_eq_some_iff.1 h
          obtain ⟨a1, a2⟩ := qScan_form _ t.1 t.2 ht
          obtain ⟨b1, b2, _, b3⟩ := q_plain _ t.1 t.2 ht
          have hd : (r ++ 32 :: s).drop 1 = escL t.1 ++ 34 :: (r.drop (t.2 + 2) ++ 32 :: s) := by
            rw [hr] at b1 b3 a2 ⊢
            simp only [List.drop_succ_cons, List.drop_zero, List.cons_append] at *
            conv => lhs; rw [← List.take_append_drop t.2 r.tail, a2]
            rw [List.append_assoc, List.append_cancel_left_eq]
            have hlt := (List.getElem?_eq_some_iff.1 b3).1
            rw [List.drop_eq_getElem_cons hlt, (List.getElem?_eq_some_iff.1 b3).2]
            rfl
          have hn : (escL t.1).length = t.2 := by rw [← a2, List.length_take]; omega
          rw [hd, qScan_inv t.1 _ a1, hn]
          exact congrArg some he
        · rename_i h5
          rw [if_neg h5]
          split at h
          · rename_i h6
            rw [if_pos h6]
            obtain ⟨t, ht, he⟩ := Option.map_eq_some_iff.1 h
            obtain ⟨a1, a2, a3⟩ := litO_form ht
            have hd : r ++ 32 :: s = literalL t.1 ++ (r.drop t.2 ++ 32 :: s) := by
              rw [← a2, ← List.append_assoc, List.take_append_drop]
            have hi := scanL_inv [] t.1 (r.drop t.2 ++ 32 :: s) a1
            rw [List.nil_append, ← hd] at hi
            unfold scanL at hi
            rw [if_pos (by simp)] at hi
            have hz : (([] : List UInt8).length : Int).toNat = 0 := rfl
            rw [hz, List.drop_zero] at hi
            obtain ⟨u, hu, hue⟩ := Option.map_eq_some_iff.1 hi
            rw [hu]
            have hl : (literalL t.1).length = t.2 := by rw [← a2, List.length_take]; omega
            simp only [Prod.mk.injEq, List.length_nil, Nat.zero_add] at hue
            obtain ⟨u1, u2⟩ := u
            obtain ⟨e1, e2⟩ := hue
            simp only at e1 e2
            subst e1
            rw [hl] at e2
            subst e2
            exact congrArg some he
          · rename_i h6
            rw [if_neg h6]
            exact h
theorem TRun.app {l : List UInt8} {a b : Nat} {ts : List Tok} (h : TRun l a ts b) (ha : a ≤ l.length) (s : List UInt8) : TRun (l ++ 32 :: s) a ts b := by
  induction h with
  | nil a => exact .nil a
  | cons h0 _ ih =>
    have hp := (oneR_pos h0).2.1
    rw [List.length_drop] at hp
    exact .cons (by rw [List.drop_append_of_le_length (by omega)]; exact oneR_app s h0) (ih (by omega))
def shT (d : Nat) (t : Tok) : Tok := ⟨t.kind, t.text, t.at_ + d⟩
theorem TRun.shift {l : List UInt8} {a b : Nat} {ts : List Tok} (h : TRun l a ts b) (p : List UInt8) : TRun (p ++ l) (a + p.length) (ts.map (shT p.length)) (b + p.length) := by
  induction h with
  | nil a => exact .nil _
  | @cons a n b k x ts h0 _ ih =>
    refine .cons (n := n) ?_ ?_
    · rw [Nat.add_comm, ← List.drop_drop, List.drop_left]
      exact h0
    · rw [Nat.add_right_comm]
      exact ih
/-- A command with a space between two others. -/
theorem toks_parts {a b : List UInt8} {us vs : List Tok} (ha : TRun a 0 us a.length) (hb : TRun b 0 vs b.length) :
    TRun (a ++ 32 :: b) 0 (us ++ ⟨1, [], a.length⟩ :: vs.map (shT (a.length + 1))) (a ++ 32 :: b).length := by
  refine (ha.app (Nat.zero_le _) b).trans (.cons (n := 1) ?_ ?_)
  · rw [List.drop_left]
    rfl
  · have h := hb.shift (a ++ [32])
    have e1 : (a ++ [32]) ++ b = a ++ 32 :: b := by simp
    have e2 : (a ++ [32]).length = a.length + 1 := by simp
    rw [e1, e2, Nat.zero_add] at h
    have e3 : (a ++ 32 :: b).length = b.length + (a.length + 1) := by simp; omega
    rw [e3]
    exact h
end Go.Proofs.YtpklpfncohdlhaaDoor
