/- The tokens of a text that was written piece by piece. No walk, no program. -/
import Derived.Test.YtpgfnlhfciacoaaGreatDoorGe
import Derived.Test.YtpgfnlhfciacoaaGreatDoorGa
import Derived.Test.YtpgfnlhfciacoaaGreatDoorGb
import Derived.Test.YtpgfnlhfciacoaaGreatDoorKa
import Derived.Test.YtpgfnlhfciacoaaGreatDoorGw
namespace Go.Proofs.YtpgfnlhfciacoaaGreatDoor

theorem one_space (r : List UInt8) : oneR (32 :: r) = some (1, [], 1) := rfl
theorem one_open (r : List UInt8) : oneR (40 :: r) = some (2, [], 1) := rfl
theorem one_close (r : List UInt8) : oneR (41 :: r) = some (3, [], 1) := rfl
/-- What stands behind a word. -/
def NoWord (r : List UInt8) : Prop := ∀ c t, r = c :: t → wordC c = false
theorem NoWord.nil : NoWord [] := fun c t h => by cases h
theorem NoWord.cons {c : UInt8} {r : List UInt8} (h : wordC c = false) : NoWord (c :: r) := fun d t e => by injection e with e1 e2; rw [← e1]; exact h
theorem one_word {x r : List UInt8} (hx : x ≠ []) (ha : x.all wordC = true) (hr : NoWord r) : oneR (x ++ r) = some (4, x, x.length) := by
  cases x with
  | nil => exact absurd rfl hx
  | cons c x =>
    have hc : wordC c = true := by
      rw [List.all_cons, Bool.and_eq_true] at ha
      exact ha.1
    have hw : wordR (c :: x ++ r) = c :: x := by
      unfold wordR
      rw [List.takeWhile_append_of_pos (fun a h => List.all_eq_true.1 ha a h)]
      cases r with
      | nil => simp
      | cons d r => rw [List.takeWhile_cons, if_neg (by rw [hr d r rfl]; decide), List.append_nil]
    have hk := kindN_word.2 hc
    unfold oneR
    show (if kindN c.toNat = 0 then _ else _) = _
    rw [if_neg (by omega), if_pos hk, hw]
theorem one_quoted {x : List UInt8} (h : allT x = true) (r : List UInt8) : oneR (quotedL x ++ r) = some (5, x, (quotedL x).length) := by
  have e : quotedL x ++ r = 34 :: (escL x ++ 34 :: r) := by unfold quotedL; simp
  rw [e]
  have hq := qScan_inv x r h
  show ((qScan (escL x ++ 34 :: r)).map fun t => (5, t.1, t.2 + 2)) = _
  rw [hq]
  unfold quotedL
  simp
theorem one_lit {x : List UInt8} (h : x.length ≤ 65536) (r : List UInt8) : oneR (literalL x ++ r) = some (6, x, (literalL x).length) := by
  have hs := scanL_inv [] x r h
  unfold scanL at hs
  rw [if_pos (by simp)] at hs
  simp only [List.length_nil, List.nil_append, Int.toNat_zero, List.drop_zero, Nat.zero_add, Int.ofNat_zero] at hs
  have hl : litO (literalL x ++ r) = some (x, (literalL x).length) := by
    cases hq : litO (literalL x ++ r) with
    | none => rw [hq] at hs; cases hs
    | some t =>
      rw [hq] at hs
      obtain ⟨a, b⟩ := t
      simpa using hs
  have e : literalL x ++ r = 123 :: (Lib.decDigits x.length ++ [125, 13, 10] ++ x ++ r) := by unfold literalL headL; simp
  rw [e] at hl ⊢
  show ((litO _).map fun t => (6, t.1, t.2)) = _
  rw [hl]
  rfl

/-- The tokens of a text: their kinds and texts. -/
inductive TP : List UInt8 → List (Nat × List UInt8) → Prop
  | nil : TP [] []
  | cons {p r x : List UInt8} {k : Nat} {ks : List (Nat × List UInt8)} : oneR (p ++ r) = some (k, x, p.length) → TP r ks → TP (p ++ r) ((k, x) :: ks)
theorem TP.space {r : List UInt8} {ks : List (Nat × List UInt8)} (h : TP r ks) : TP (32 :: r) ((1, []) :: ks) := .cons (p := [32]) (one_space r) h
theorem TP.open_ {r : List UInt8} {ks : List (Nat × List UInt8)} (h : TP r ks) : TP (40 :: r) ((2, []) :: ks) := .cons (p := [40]) (one_open r) h
theorem TP.close {r : List UInt8} {ks : List (Nat × List UInt8)} (h : TP r ks) : TP (41 :: r) ((3, []) :: ks) := .cons (p := [41]) (one_close r) h
theorem TP.word {x r : List UInt8} {ks : List (Nat × List UInt8)} (hx : x ≠ []) (ha : x.all wordC = true) (hr : NoWord r) (h : TP r ks) : TP (x ++ r) ((4, x) :: ks) := .cons (one_word hx ha hr) h
theorem TP.quoted {x r : List UInt8} {ks : List (Nat × List UInt8)} (hx : allT x = true) (h : TP r ks) : TP (quotedL x ++ r) ((5, x) :: ks) := .cons (one_quoted hx r) h
theorem TP.lit {x r : List UInt8} {ks : List (Nat × List UInt8)} (hx : x.length ≤ 65536) (h : TP r ks) : TP (literalL x ++ r) ((6, x) :: ks) := .cons (one_lit hx r) h
theorem TP.run {r : List UInt8} {ks : List (Nat × List UInt8)} (h : TP r ks) (l : List UInt8) (a : Nat) (ha : a ≤ l.length) (hd : l.drop a = r) : ∃ us, TRun l a us l.length ∧ us.map (fun t => (t.kind, t.text)) = ks := by
  induction h generalizing a with
  | nil =>
    have : l.length ≤ a := List.drop_eq_nil_iff.1 hd
    obtain rfl : a = l.length := by omega
    exact ⟨[], .nil _, rfl⟩
  | @cons p r x k ks h1 _ ih =>
    have hl : a + p.length ≤ l.length := by
      have := congrArg List.length hd
      rw [List.length_drop, List.length_append] at this
      omega
    obtain ⟨us, hu, he⟩ := ih (a + p.length) hl (by rw [← List.drop_drop, hd, List.drop_left])
    exact ⟨⟨k, x, a⟩ :: us, .cons (by rw [hd]; exact h1) hu, by rw [List.map_cons, he]⟩
/-- What Tokens answers then. -/
theorem TP.toks {r : List UInt8} {ks : List (Nat × List UInt8)} (h : TP r ks) : ∃ ts, IsToks r ts (-1) ∧ ts.map (fun t => (t.kind, t.text)) = ks ++ [(0, [])] := by
  obtain ⟨us, hu, he⟩ := h.run r 0 (Nat.zero_le _) rfl
  exact ⟨_, .inl ⟨us, hu, rfl, rfl⟩, by rw [List.map_append, he]; rfl⟩
end Go.Proofs.YtpgfnlhfciacoaaGreatDoor

namespace Go.Proofs.YtpgfnlhfciacoaaGreatDoor

def kt (ts : List Tok) : List (Nat × List UInt8) := ts.map fun t => (t.kind, t.text)
theorem kt_cons {ts : List Tok} {k : Nat} {x : List UInt8} {ks : List (Nat × List UInt8)} (h : kt ts = (k, x) :: ks) : ∃ t us, ts = t :: us ∧ t.kind = k ∧ t.text = x ∧ kt us = ks := by
  cases ts with
  | nil => cases h
  | cons t us =>
    unfold kt at h
    rw [List.map_cons] at h
    injection h with h1 h2
    injection h1 with h3 h4
    exact ⟨t, us, rfl, h3, h4, h2⟩
theorem take_kt {ts : List Tok} {k : Nat} {x : List UInt8} {ks : List (Nat × List UInt8)} (h : kt ts = (k, x) :: ks) : ∃ us, takeO k ts = some (x, us) ∧ kt us = ks := by
  obtain ⟨t, us, rfl, h1, h2, h3⟩ := kt_cons h
  exact ⟨us, by show (if t.kind = k then some (t.text, us) else none) = _; rw [if_pos h1, h2], h3⟩
theorem sees_kt {ts : List Tok} {k j : Nat} {x : List UInt8} {ks : List (Nat × List UInt8)} (h : kt ts = (k, x) :: ks) : seesT j ts = decide (k = j) := by
  obtain ⟨t, us, rfl, h1, _, _⟩ := kt_cons h
  show decide (t.kind = j) = _
  rw [h1]

/-- The tokens of words with spaces between. -/
def moreK (ws : List (List UInt8)) : List (Nat × List UInt8) := ws.flatMap fun x => [(1, []), (4, x)]
theorem more_kt (ws : List (List UInt8)) {ts : List Tok} {k : Nat} {x : List UInt8} {ks : List (Nat × List UInt8)} (hk : k ≠ 1) (h : kt ts = moreK ws ++ (k, x) :: ks) : ∃ us, moreO ts = some (ws, us) ∧ kt us = (k, x) :: ks := by
  induction ws generalizing ts with
  | nil =>
    have h0 : kt ts = (k, x) :: ks := h
    obtain ⟨t, us, rfl, h1, h2, h3⟩ := kt_cons h0
    refine ⟨t :: us, ?_, h0⟩
    cases us with
    | nil => unfold moreO; rw [if_neg (by omega)]
    | cons u us => unfold moreO; rw [if_neg (by omega)]
  | cons w ws ih =>
    have h0 : kt ts = (1, []) :: (4, w) :: (moreK ws ++ (k, x) :: ks) := h
    obtain ⟨t, us, rfl, h1, h2, h3⟩ := kt_cons h0
    obtain ⟨u, vs, rfl, h4, h5, h6⟩ := kt_cons h3
    obtain ⟨zs, h7, h8⟩ := ih h6
    refine ⟨zs, ?_, h8⟩
    unfold moreO
    rw [if_pos h1, if_pos h4, h7, h5]
    rfl
theorem words_kt (w : List UInt8) (ws : List (List UInt8)) {ts : List Tok} {k : Nat} {x : List UInt8} {ks : List (Nat × List UInt8)} (hk : k ≠ 1) (h : kt ts = (4, w) :: (moreK ws ++ (k, x) :: ks)) : ∃ us, wordsO ts = some (w :: ws, us) ∧ kt us = (k, x) :: ks := by
  obtain ⟨us, h1, h2⟩ := take_kt h
  obtain ⟨zs, h3, h4⟩ := more_kt ws hk h2
  exact ⟨zs, by unfold wordsO; rw [h1, Option.bind_some, h3]; rfl, h4⟩
/-- The tokens of a list in brackets. -/
def listK : List (List UInt8) → List (Nat × List UInt8)
  | [] => [(2, []), (3, [])]
  | w :: ws => (2, []) :: (4, w) :: (moreK ws ++ [(3, [])])
theorem list_kt (ws : List (List UInt8)) {ts : List Tok} {ks : List (Nat × List UInt8)} (h : kt ts = listK ws ++ ks) : ∃ us, listO ts = some (ws, us) ∧ kt us = ks := by
  cases ws with
  | nil =>
    have h0 : kt ts = (2, []) :: (3, []) :: ks := h
    obtain ⟨us, h1, h2⟩ := take_kt h0
    obtain ⟨vs, h3, h4⟩ := take_kt h2
    exact ⟨vs, by unfold listO; rw [h1, Option.bind_some, if_pos (by rw [sees_kt h2]; rfl), h3]; rfl, h4⟩
  | cons w ws =>
    have h0 : kt ts = (2, []) :: (4, w) :: (moreK ws ++ (3, []) :: ks) := by
      rw [h]
      simp [listK]
    obtain ⟨us, h1, h2⟩ := take_kt h0
    obtain ⟨vs, h3, h4⟩ := words_kt w ws (by decide) h2
    obtain ⟨zs, h5, h6⟩ := take_kt h4
    refine ⟨zs, ?_, h6⟩
    unfold listO
    rw [h1, Option.bind_some, if_neg (by rw [sees_kt h2]; decide), h3, Option.bind_some, h5]
    rfl

/-- Words with spaces between, as text. -/
def WordsOk (ws : List (List UInt8)) : Prop := ∀ w ∈ ws, w ≠ [] ∧ w.all wordC = true
theorem noWord_tail (ws : List (List UInt8)) {r : List UInt8} (hr : NoWord r) : NoWord (Lib.joinTail [32] ws ++ r) := by
  cases ws with
  | nil => simpa [Lib.joinTail] using hr
  | cons w ws =>
    intro c t e
    have e2 : 32 :: (w ++ Lib.joinTail [32] ws ++ r) = c :: t := by rw [← e]; simp [Lib.joinTail]
    injection e2 with e3 _
    rw [← e3]
    decide
theorem TP.more (ws : List (List UInt8)) (hw : WordsOk ws) {r : List UInt8} {ks : List (Nat × List UInt8)} (hr : NoWord r) (h : TP r ks) : TP (Lib.joinTail [32] ws ++ r) (moreK ws ++ ks) := by
  induction ws with
  | nil => simpa [Lib.joinTail, moreK] using h
  | cons w ws ih =>
    have h1 := ih (fun x hx => hw x (List.mem_cons_of_mem _ hx))
    have h2 := hw w (List.mem_cons_self ..)
    have h3 := (TP.word h2.1 h2.2 (noWord_tail ws hr) h1).space
    simpa [Lib.joinTail, moreK] using h3
theorem TP.words (w : List UInt8) (ws : List (List UInt8)) (hw : WordsOk (w :: ws)) {r : List UInt8} {ks : List (Nat × List UInt8)} (hr : NoWord r) (h : TP r ks) : TP (spL (w :: ws) ++ r) ((4, w) :: (moreK ws ++ ks)) := by
  have h2 := hw w (List.mem_cons_self ..)
  have h3 := TP.word h2.1 h2.2 (noWord_tail ws hr) (TP.more ws (fun x hx => hw x (List.mem_cons_of_mem _ hx)) hr h)
  unfold spL
  rw [Lib.join_cons, List.append_assoc]
  exact h3
theorem TP.list (ws : List (List UInt8)) (hw : WordsOk ws) {r : List UInt8} {ks : List (Nat × List UInt8)} (h : TP r ks) : TP (40 :: (spL ws ++ [41]) ++ r) (listK ws ++ ks) := by
  cases ws with
  | nil => exact h.close.open_
  | cons w ws =>
    have h1 := (TP.words w ws hw (r := 41 :: r) (NoWord.cons (by decide)) h.close).open_
    simpa [listK] using h1
end Go.Proofs.YtpgfnlhfciacoaaGreatDoor

namespace Go.Proofs.YtpgfnlhfciacoaaGreatDoor

theorem atom_word {c : UInt8} (h : atomN c.toNat = true) : wordC c = true ∧ mbN c.toNat = true := by
  refine ⟨?_, by unfold mbN; rw [h]; rfl⟩
  unfold atomN at h
  unfold wordC
  rw [decide_eq_true_iff] at h ⊢
  omega
def mbK (s : List UInt8) : List (Nat × List UInt8) := if allL atomN s = true then [(4, s)] else if allT s = true then [(5, s)] else [(6, s)]
theorem TP.mbox {s r : List UInt8} {ks : List (Nat × List UInt8)} (hs : s.length ≤ 65536) (hr : NoWord r) (h : TP r ks) : TP ((if allL atomN s = true then s else bestL s) ++ r) (mbK s ++ ks) := by
  unfold mbK
  by_cases h1 : allL atomN s = true
  · rw [if_pos h1, if_pos h1]
    unfold allL at h1
    rw [Bool.and_eq_true] at h1
    refine TP.word ?_ ?_ hr h
    · rintro rfl
      exact absurd h1.1 (by decide)
    · exact List.all_eq_true.2 fun c hc => (atom_word (List.all_eq_true.1 h1.2 c hc)).1
  · rw [if_neg h1, if_neg h1]
    unfold bestL
    by_cases h2 : allT s = true
    · rw [if_pos h2, if_pos h2]
      exact TP.quoted h2 h
    · rw [if_neg h2, if_neg h2]
      exact TP.lit hs h
theorem mbox_kt {s : List UInt8} (hs : s.length ≤ 65536) {ts : List Tok} {ks : List (Nat × List UInt8)} (h : kt ts = mbK s ++ ks) : ∃ us, mboxO ts = some (s, us) ∧ kt us = ks := by
  unfold mbK at h
  by_cases h1 : allL atomN s = true
  · rw [if_pos h1] at h
    obtain ⟨t, us, rfl, e1, e2, e3⟩ := kt_cons h
    refine ⟨us, ?_, e3⟩
    have hm : allL mbN s = true := by
      unfold allL at h1 ⊢
      rw [Bool.and_eq_true] at h1 ⊢
      exact ⟨h1.1, List.all_eq_true.2 fun c hc => (atom_word (List.all_eq_true.1 h1.2 c hc)).2⟩
    show (if t.kind = 4 then (if allL mbN t.text = true ∧ t.text.length ≤ 65536 then some (t.text, us) else none) else _) = _
    rw [if_pos e1, e2, if_pos ⟨hm, hs⟩]
  · rw [if_neg h1] at h
    have h5 : ∃ k, (k = 5 ∨ k = 6) ∧ kt ts = (k, s) :: ks := by
      by_cases h2 : allT s = true
      · rw [if_pos h2] at h
        exact ⟨5, .inl rfl, h⟩
      · rw [if_neg h2] at h
        exact ⟨6, .inr rfl, h⟩
    obtain ⟨k, hk, h6⟩ := h5
    obtain ⟨t, us, rfl, e1, e2, e3⟩ := kt_cons h6
    refine ⟨us, ?_, e3⟩
    show (if t.kind = 4 then _ else if (t.kind = 5 ∨ t.kind = 6) ∧ t.text.length ≤ 65536 then some (t.text, us) else none) = _
    rw [if_neg (by omega), e1, e2, if_pos ⟨hk, hs⟩]

theorem verb_ok : ∀ k : Nat, k < 9 → 1 ≤ k → verbB k ≠ [] ∧ (verbB k).all wordC = true ∧ kindL (verbB k) = k := by decide +kernel
theorem verbZ_k {k : Nat} (h1 : 1 ≤ k) (h2 : k ≤ 8) : verbZ (k : Int) = verbB k := by
  unfold verbZ
  rw [if_pos (by omega)]
  rfl
theorem mode_ok : ∀ m : Nat, m < 3 → ∀ s : Bool, modeT m s ≠ [] ∧ (modeT m s).all wordC = true ∧ modeL (modeT m s) = some (m, s) := by decide +kernel
theorem items_ok : ∀ n : Nat, n < 32 → 1 ≤ n → itemsO ((eachL n).map itemB) = some n := by decide +kernel
theorem flags_ok : ∀ n : Nat, n < 32 → flagsO ((eachL n).map nameF) = some n := by decide +kernel
theorem items_words : ∀ n : Nat, n < 32 → ((eachL n).map itemB).all (fun w => w != [] && w.all wordC) = true := by decide +kernel
theorem flags_words : ∀ n : Nat, n < 32 → ((eachL n).map nameF).all (fun w => w != [] && w.all wordC) = true := by decide +kernel
theorem wordsOk {ws : List (List UInt8)} (h : ws.all (fun w => w != [] && w.all wordC) = true) : WordsOk ws := by
  intro w hw
  have := List.all_eq_true.1 h w hw
  rw [Bool.and_eq_true] at this
  exact ⟨by simpa using this.1, this.2⟩
theorem TP.items {n : Nat} (hn : n ≤ 31) {r : List UInt8} {ks : List (Nat × List UInt8)} (h : TP r ks) : TP (itemsT n ++ r) (listK ((eachL n).map itemB) ++ ks) := TP.list _ (wordsOk (items_words n (by omega))) h
theorem TP.flags {n : Nat} (hn : n ≤ 31) {r : List UInt8} {ks : List (Nat × List UInt8)} (h : TP r ks) : TP (listL n ++ r) (listK ((eachL n).map nameF) ++ ks) := TP.list _ (wordsOk (flags_words n (by omega))) h
theorem listK_sees (ws : List (List UInt8)) {ts : List Tok} {ks : List (Nat × List UInt8)} (h : kt ts = listK ws ++ ks) : seesT 2 ts = true := by
  cases ws with
  | nil =>
    have h0 : kt ts = (2, []) :: (3, []) :: ks := h
    rw [sees_kt h0]
    rfl
  | cons w ws =>
    have h0 : kt ts = (2, []) :: ((4, w) :: (moreK ws ++ [(3, [])]) ++ ks) := h
    rw [sees_kt h0]
    rfl
end Go.Proofs.YtpgfnlhfciacoaaGreatDoor

namespace Go.Proofs.YtpgfnlhfciacoaaGreatDoor
open Go.RowKit

theorem form_chars {n : Nat} {c : UInt8} (h : c ∈ formN n) : c = 42 ∨ (48 ≤ c.toNat ∧ c.toNat ≤ 57) := by
  unfold formN at h
  split at h
  · exact .inl (by simpa using h)
  · obtain ⟨h1, _, _⟩ := dec_facts n
    have := List.all_eq_true.1 h1 c h
    simp only [isDig, decide_eq_true_eq] at this
    exact .inr this
theorem form_no {n : Nat} {c : UInt8} (hc : c ≠ 42) (hd : ¬ (48 ≤ c.toNat ∧ c.toNat ≤ 57)) : c ∉ formN n := fun h => (form_chars h).elim hc hd
theorem no_44 (n : Nat) : (44 : UInt8) ∉ formN n := form_no (by decide) (by decide)
theorem no_58 (n : Nat) : (58 : UInt8) ∉ formN n := form_no (by decide) (by decide)
theorem numP_form {n : Nat} (h : n ≤ 4294967295) : numP (formN n) = (n, true) := by
  unfold numP formN
  by_cases h0 : n = 0
  · simp [h0]
  · rw [if_neg h0]
    obtain ⟨h1, _, _⟩ := dec_facts n
    have hne : Lib.decDigits n ≠ [42] := by
      intro e
      rw [e] at h1
      revert h1
      decide
    rw [if_neg hne, numOf_dec h]
    simp
    omega
theorem index_not {c : UInt8} : ∀ {l : List UInt8}, c ∉ l → Lib.indexByte l c = -1
  | [], _ => rfl
  | b :: l, h => by
    have h1 : (b == c) = false := by
      have : b ≠ c := fun e => h (by simp [e])
      simpa using this
    have h2 : c ∉ l := fun e => h (by simp [e])
    rw [Lib.indexByte, h1, index_not h2]
    simp
theorem index_is {c : UInt8} : ∀ {a b : List UInt8}, c ∉ a → Lib.indexByte (a ++ c :: b) c = (a.length : Int)
  | [], b, _ => by simp [Lib.indexByte]
  | x :: a, b, h => by
    have h1 : (x == c) = false := by
      have : x ≠ c := fun e => h (by simp [e])
      simpa using this
    have h2 : c ∉ a := fun e => h (by simp [e])
    have ih := index_is (b := b) h2
    rw [List.cons_append, Lib.indexByte, h1, ih]
    have h3 : ((a.length : Int) == -1) = false := by
      simp
    rw [h3]
    simp
theorem rngP_form {r : R} (h1 : r.1 ≤ 4294967295) (h2 : r.2 ≤ 4294967295) : rngP (formR r) = (r, true) := by
  obtain ⟨x, y⟩ := r
  unfold formR
  dsimp only at h1 h2 ⊢
  by_cases he : x = y
  · subst he
    rw [if_pos rfl]
    unfold rngP
    rw [index_not (no_58 x), if_pos (by decide), numP_form h1]
  · rw [if_neg he]
    unfold rngP
    rw [index_is (no_58 x), if_neg (by omega)]
    simp only [Int.toNat_natCast]
    have e1 : (formN x ++ 58 :: formN y).take (formN x).length = formN x := by simp
    have e2 : (formN x ++ 58 :: formN y).drop ((formN x).length + 1) = formN y := by
      rw [← List.drop_drop]; simp
    rw [e1, e2, numP_form h1, numP_form h2]
    rfl
theorem formR_no (r : R) : (44 : UInt8) ∉ formR r := by
  unfold formR
  split
  · exact no_44 _
  · intro h
    rcases List.mem_append.1 h with h | h
    · exact no_44 _ h
    · rcases List.mem_cons.1 h with h | h
      · revert h; decide
      · exact no_44 _ h
theorem split_print : ∀ (l : List R) (r : R), splitL 44 (formR r ++ prTail l) = formR r :: l.map formR
  | [], r => by
    have : formR r ++ prTail [] = formR r := by simp [prTail]
    rw [this, splitL_none (formR_no r)]
    rfl
  | q :: l, r => by
    have : formR r ++ prTail (q :: l) = formR r ++ 44 :: (formR q ++ prTail l) := by simp [prTail]
    rw [this, splitL_at (formR_no r), split_print l q]
    rfl
theorem parse_print {l : List R} (hne : l ≠ []) (hb : ∀ r ∈ l, r.1 ≤ 4294967295 ∧ r.2 ≤ 4294967295) : parseP (printL l) = (l, true) := by
  obtain ⟨r, l, rfl⟩ := List.exists_cons_of_ne_nil hne
  have hs : splitL 44 (printL (r :: l)) = (r :: l).map formR := split_print l r
  unfold parseP
  rw [hs, if_pos, List.map_map]
  · congr 1
    conv => rhs; rw [← List.map_id (r :: l)]
    apply List.map_congr_left
    intro q hq
    show (rngP (formR q)).1 = q
    rw [rngP_form (hb q hq).1 (hb q hq).2]
  · rw [List.all_map, List.all_eq_true]
    intro q hq
    show (rngP (formR q)).2 = true
    rw [rngP_form (hb q hq).1 (hb q hq).2]
end Go.Proofs.YtpgfnlhfciacoaaGreatDoor

namespace Go.Proofs.YtpgfnlhfciacoaaGreatDoor

/-! The text of a set is a word. -/
theorem formN_ne (n : Nat) : formN n ≠ [] := by
  intro h
  unfold formN at h
  split at h
  · cases h
  · exact absurd h (dec_facts n).2.2
theorem num_word {c : UInt8} (h : c = 42 ∨ (48 ≤ c.toNat ∧ c.toNat ≤ 57)) : wordC c = true := by
  rcases h with rfl | h
  · decide
  · unfold wordC
    rw [decide_eq_true_iff]
    omega
theorem formN_word (n : Nat) : (formN n).all wordC = true := List.all_eq_true.2 fun _ hc => num_word (form_chars hc)
theorem formR_word (r : R) : (formR r).all wordC = true := by
  unfold formR
  split
  · exact formN_word _
  · rw [List.all_append, List.all_cons, formN_word, formN_word]
    decide
theorem formR_ne (r : R) : formR r ≠ [] := by
  unfold formR
  split
  · exact formN_ne _
  · intro h
    exact formN_ne _ (List.append_eq_nil_iff.1 h).1
theorem printL_word (l : List R) : (printL l).all wordC = true := by
  cases l with
  | nil => rfl
  | cons r l =>
    unfold printL prTail
    rw [List.all_append, formR_word, Bool.true_and, List.all_eq_true]
    intro c hc
    obtain ⟨q, _, hq⟩ := List.mem_flatMap.1 hc
    rcases List.mem_cons.1 hq with rfl | hq
    · decide
    · exact List.all_eq_true.1 (formR_word q) c hq
theorem printL_ne {l : List R} (h : l ≠ []) : printL l ≠ [] := by
  cases l with
  | nil => exact absurd rfl h
  | cons r l =>
    intro e
    exact formR_ne r (List.append_eq_nil_iff.1 e).1
theorem set_kt {l : List R} (hne : l ≠ []) (hb : ∀ r ∈ l, r.1 ≤ 4294967295 ∧ r.2 ≤ 4294967295) {ts : List Tok} {ks : List (Nat × List UInt8)} (h : kt ts = (4, printL l) :: ks) : ∃ us, setO ts = some (l, us) ∧ kt us = ks := by
  obtain ⟨us, h1, h2⟩ := take_kt h
  exact ⟨us, by unfold setO; rw [h1, Option.bind_some, if_pos (by rw [parse_print hne hb]), parse_print hne hb], h2⟩

/-- The tokens of a command behind its tag, read whole. -/
def Reads (t B : List UInt8) (c : Cmd) : Prop := ∃ ts, IsToks B ts (-1) ∧ bodyO t ts = some c
theorem reads_of {t rest : List UInt8} {k : Nat} (h1 : 1 ≤ k) (h8 : k ≤ 8) {ks : List (Nat × List UInt8)} (hn : NoWord rest) (h : TP rest ks) {c : Cmd}
    (hr : ∀ ts, kt ts = ks ++ [(0, [])] → ∃ us, restC k { cmd0 t with kind := k } ts = some (c, us) ∧ kt us = [(0, [])]) : Reads t (verbB k ++ rest) c := by
  obtain ⟨v1, v2, v3⟩ := verb_ok k (by omega) h1
  obtain ⟨ts, i1, i2⟩ := (TP.word v1 v2 hn h).toks
  refine ⟨ts, i1, ?_⟩
  obtain ⟨us, e1, e2⟩ := take_kt (ts := ts) (k := 4) (x := verbB k) (ks := ks ++ [(0, [])]) (by unfold kt; rw [i2]; rfl)
  obtain ⟨vs, e3, e4⟩ := hr us e2
  obtain ⟨zs, e5, _⟩ := take_kt e4
  unfold bodyO
  rw [e1, Option.bind_some, if_neg (by rw [v3]; omega), v3, e3, Option.bind_some, e5]
  rfl
theorem reads_plain {t : List UInt8} {k : Nat} (h1 : 1 ≤ k) (h4 : k ≤ 4) : Reads t (verbB k ++ []) { cmd0 t with kind := k } :=
  reads_of h1 (by omega) NoWord.nil .nil fun ts h => ⟨ts, by unfold restC; rw [if_neg (by omega), if_neg (by omega), if_neg (by omega), if_neg (by omega)], h⟩
theorem reads_sel {t s : List UInt8} (hs : s.length ≤ 65536) : Reads t (verbB 5 ++ 32 :: (if allL atomN s = true then s else bestL s)) { cmd0 t with kind := 5, mbox := s } := by
  have h0 := (TP.mbox (r := []) hs NoWord.nil .nil).space
  rw [List.append_nil, List.append_nil] at h0
  refine reads_of (by decide) (by decide) (NoWord.cons (by decide)) h0 fun ts h => ?_
  obtain ⟨us, e1, e2⟩ := take_kt (ts := ts) (k := 1) (x := []) (ks := mbK s ++ [(0, [])]) (by rw [h]; rfl)
  obtain ⟨vs, e3, e4⟩ := mbox_kt hs e2
  refine ⟨vs, ?_, e4⟩
  show selO _ ts = _
  unfold selO
  rw [e1, Option.bind_some, e3]
  rfl
theorem reads_app {t s d : List UInt8} {f : Nat} (hs : s.length ≤ 65536) (hd : d.length ≤ 65536) (hf : f ≤ 31) :
    Reads t (verbB 6 ++ ((32 :: (if allL atomN s = true then s else bestL s)) ++ ((if 0 < f then 32 :: listL f else []) ++ 32 :: literalL d))) { cmd0 t with kind := 6, mbox := s, flags := f, data := d } := by
  have h6 := (TP.lit (r := []) hd .nil).space
  rw [List.append_nil] at h6
  by_cases h0 : 0 < f
  · rw [if_pos h0]
    have h5 := (TP.flags hf h6).space
    have h4 := (TP.mbox hs (NoWord.cons (by decide)) h5).space
    refine reads_of (by decide) (by decide) (NoWord.cons (by decide)) (by simpa using h4) fun ts h => ?_
    obtain ⟨us, e1, e2⟩ := take_kt (ts := ts) (k := 1) (x := []) (ks := mbK s ++ ((1, []) :: (listK ((eachL f).map nameF) ++ [(1, []), (6, d), (0, [])]))) (by rw [h]; simp)
    obtain ⟨vs, e3, e4⟩ := mbox_kt hs e2
    obtain ⟨xs, e5, e6⟩ := take_kt e4
    obtain ⟨ys, e7, e8⟩ := list_kt _ e6
    obtain ⟨zs, e9, ea⟩ := take_kt e8
    obtain ⟨qs, eb, ec⟩ := take_kt ea
    refine ⟨qs, ?_, ec⟩
    show appO _ ts = _
    unfold appO
    rw [e1, Option.bind_some, e3, Option.bind_some, e5, Option.bind_some, if_pos (listK_sees _ e6), e7, Option.bind_some, flags_ok f (by omega), Option.bind_some, e9, Option.bind_some, eb]
    rfl
  · obtain rfl : f = 0 := by omega
    rw [if_neg h0]
    have h4 := (TP.mbox hs (NoWord.cons (by decide)) h6).space
    refine reads_of (by decide) (by decide) (NoWord.cons (by decide)) (by simpa using h4) fun ts h => ?_
    obtain ⟨us, e1, e2⟩ := take_kt (ts := ts) (k := 1) (x := []) (ks := mbK s ++ [(1, []), (6, d), (0, [])]) (by rw [h]; simp)
    obtain ⟨vs, e3, e4⟩ := mbox_kt hs e2
    obtain ⟨xs, e5, e6⟩ := take_kt e4
    obtain ⟨qs, eb, ec⟩ := take_kt e6
    refine ⟨qs, ?_, ec⟩
    show appO _ ts = _
    unfold appO
    rw [e1, Option.bind_some, e3, Option.bind_some, e5, Option.bind_some, if_neg (by rw [sees_kt e6]; decide), eb]
    rfl
theorem reads_fet {t : List UInt8} {l : List R} {n : Nat} (hne : l ≠ []) (hb : ∀ r ∈ l, r.1 ≤ 4294967295 ∧ r.2 ≤ 4294967295) (h1 : 1 ≤ n) (hn : n ≤ 31) :
    Reads t (verbB 7 ++ ((32 :: printL l) ++ 32 :: itemsT n)) { cmd0 t with kind := 7, set := l, items := n } := by
  have h6 := (TP.items (r := []) hn .nil).space
  rw [List.append_nil, List.append_nil] at h6
  have h4 := (TP.word (printL_ne hne) (printL_word l) (NoWord.cons (by decide)) h6).space
  refine reads_of (by decide) (by decide) (NoWord.cons (by decide)) (by simpa using h4) fun ts h => ?_
  obtain ⟨us, e1, e2⟩ := take_kt (ts := ts) (k := 1) (x := []) (ks := (4, printL l) :: (1, []) :: (listK ((eachL n).map itemB) ++ [(0, [])])) (by rw [h]; simp)
  obtain ⟨vs, e3, e4⟩ := set_kt hne hb e2
  obtain ⟨xs, e5, e6⟩ := take_kt e4
  obtain ⟨ys, e7, e8⟩ := list_kt _ e6
  refine ⟨ys, ?_, e8⟩
  show fetO _ ts = _
  unfold fetO
  rw [e1, Option.bind_some, e3, Option.bind_some, e5, Option.bind_some, if_pos (listK_sees _ e6), e7, Option.bind_some, items_ok n (by omega) h1]
  rfl
theorem reads_sto {t : List UInt8} {l : List R} {m f : Nat} {si : Bool} (hne : l ≠ []) (hb : ∀ r ∈ l, r.1 ≤ 4294967295 ∧ r.2 ≤ 4294967295) (hm : m ≤ 2) (hf : f ≤ 31) :
    Reads t (verbB 8 ++ ((32 :: printL l) ++ ((32 :: modeT m si) ++ 32 :: listL f))) { cmd0 t with kind := 8, set := l, mode := m, silent := si, flags := f } := by
  have h6 := (TP.flags (r := []) hf .nil).space
  rw [List.append_nil, List.append_nil] at h6
  obtain ⟨m1, m2, m3⟩ := mode_ok m (by omega) si
  have h5 := (TP.word m1 m2 (NoWord.cons (by decide)) h6).space
  have h4 := (TP.word (printL_ne hne) (printL_word l) (NoWord.cons (by decide)) h5).space
  refine reads_of (by decide) (by decide) (NoWord.cons (by decide)) (by simpa using h4) fun ts h => ?_
  obtain ⟨us, e1, e2⟩ := take_kt (ts := ts) (k := 1) (x := []) (ks := (4, printL l) :: (1, []) :: (4, modeT m si) :: (1, []) :: (listK ((eachL f).map nameF) ++ [(0, [])])) (by rw [h]; simp)
  obtain ⟨vs, e3, e4⟩ := set_kt hne hb e2
  obtain ⟨xs, e5, e6⟩ := take_kt e4
  obtain ⟨ys, e7, e8⟩ := take_kt e6
  obtain ⟨zs, e9, ea⟩ := take_kt e8
  obtain ⟨qs, eb, ec⟩ := list_kt _ ea
  refine ⟨qs, ?_, ec⟩
  show stoO _ ts = _
  unfold stoO
  rw [e1, Option.bind_some, e3, Option.bind_some, e5, Option.bind_some, e7, Option.bind_some, m3, Option.bind_some, e9, Option.bind_some, if_pos (listK_sees _ ea), eb, Option.bind_some, flags_ok f (by omega)]
  rfl
theorem tag_front {t r : List UInt8} (hne : t ≠ []) (ht : t.all (fun c => tagN c.toNat) = true) : tagO (t ++ 32 :: r) = some t := by
  have e : tagL (t ++ 32 :: r) = t := by
    unfold tagL
    rw [List.takeWhile_append_of_pos (fun a h => List.all_eq_true.1 ht a h), List.takeWhile_cons, if_neg (by decide), List.append_nil]
  unfold tagO
  rw [e, if_pos ⟨hne, by simp⟩]
/-- A command's text, read. -/
theorem cmd_of {t B : List UInt8} {c : Cmd} (hne : t ≠ []) (ht : t.all (fun c => tagN c.toNat) = true) (h : Reads t B c) : IsCmd (t ++ 32 :: B) c true := by
  obtain ⟨ts, h1, h2⟩ := h
  refine .good (tag_front hne ht) (ts := ts) ?_ h2
  have e : (t ++ 32 :: B).drop (t.length + 1) = B := by
    rw [← List.drop_drop, List.drop_left]
    rfl
  rw [e]
  exact h1
end Go.Proofs.YtpgfnlhfciacoaaGreatDoor

namespace Go.Proofs.YtpgfnlhfciacoaaGreatDoor

theorem sameC_eq {a b : CI} (h : sameC a b = true) : a = b := by
  cases a
  cases b
  simp [sameC] at h
  obtain ⟨rfl, rfl, rfl, rfl, rfl, rfl, rfl, rfl, rfl⟩ := h
  rfl
def cmOf (a : CI) : Cmd := ⟨a.tag, a.kind.toNat, a.mbox, a.set, a.items.toNat, a.mode.toNat, a.silent, a.flags.toNat, a.data⟩
theorem text_eq (a : CI) : textT a = a.tag ++ 32 :: (verbZ a.kind ++ restT a) := by
  unfold textT
  simp
theorem text_cmd {a : CI} (hv : validC a = true) (hf : 0 ≤ a.flags) (hb : ∀ r ∈ a.set, r.1 ≤ 4294967295 ∧ r.2 ≤ 4294967295) : IsCmd (textT a) (cmOf a) true ∧ ciOf (cmOf a) = a := by
  obtain ⟨hm, hd, hf2⟩ := validC_bd hv
  unfold validC at hv
  simp only [Bool.and_eq_true] at hv
  obtain ⟨hok, _, _, ht, hs⟩ := hv
  have he := sameC_eq hs
  clear hs
  unfold allL at ht
  rw [Bool.and_eq_true] at ht
  have htn : a.tag ≠ [] := by
    intro e
    rw [e] at ht
    exact absurd ht.1 (by decide)
  have H : ∀ c, Reads a.tag (verbZ a.kind ++ restT a) c → IsCmd (textT a) c true := fun c h => by
    rw [text_eq]
    exact cmd_of htn ht.2 h
  obtain ⟨tag, kind, mbox, set, items, mode, silent, flags, data⟩ := a
  simp only at *
  obtain ⟨f, rfl⟩ : ∃ f : Nat, flags = (f : Int) := ⟨flags.toNat, by omega⟩
  by_cases h5 : kind = 5
  · subst h5
    simp [ownC] at he
    obtain ⟨rfl, rfl, rfl, rfl, rfl, rfl⟩ := he
    exact ⟨H _ (reads_sel hm), rfl⟩
  by_cases h6 : kind = 6
  · subst h6
    simp [ownC] at he
    obtain ⟨rfl, rfl, rfl, rfl⟩ := he
    refine ⟨H _ ?_, rfl⟩
    have h := reads_app (t := tag) (f := f) hm hd (by omega)
    have e : (if (0 : Int) < (f : Int) then 32 :: listL f else []) = (if 0 < f then 32 :: listL f else []) := by
      by_cases h0 : 0 < f
      · rw [if_pos h0, if_pos (by omega)]
      · rw [if_neg h0, if_neg (by omega)]
    show Reads tag (verbB 6 ++ ((32 :: mboxT mbox) ++ ((if (0 : Int) < (f : Int) then 32 :: listL f else []) ++ 32 :: literalL data))) _
    rw [e]
    exact h
  by_cases h7 : kind = 7
  · subst h7
    simp [ownC] at he
    obtain ⟨rfl, rfl, rfl, rfl, rfl⟩ := he
    simp [okC] at hok
    obtain ⟨o1, o2, o3⟩ := hok
    obtain ⟨n, rfl⟩ : ∃ n : Nat, items = (n : Int) := ⟨items.toNat, by omega⟩
    have h := reads_fet (t := tag) (l := set) (n := n) (List.ne_nil_of_length_pos o1) hb (by omega) (by omega)
    exact ⟨H _ h, rfl⟩
  by_cases h8 : kind = 8
  · subst h8
    simp [ownC] at he
    obtain ⟨rfl, rfl, rfl⟩ := he
    simp [okC] at hok
    obtain ⟨o1, o2, o3⟩ := hok
    obtain ⟨n, rfl⟩ : ∃ n : Nat, mode = (n : Int) := ⟨mode.toNat, by omega⟩
    have h := reads_sto (t := tag) (l := set) (m := n) (f := f) (si := silent) (List.ne_nil_of_length_pos o1) hb (by omega) (by omega)
    exact ⟨H _ h, rfl⟩
  simp [ownC, h5, h6, h7, h8] at he
  simp [okC, h7, h8] at hok
  obtain ⟨rfl, rfl, rfl, rfl, rfl, rfl, rfl⟩ := he
  obtain ⟨k, rfl⟩ : ∃ k : Nat, kind = (k : Int) := ⟨kind.toNat, by omega⟩
  refine ⟨H _ ?_, rfl⟩
  have h := reads_plain (t := tag) (k := k) (by omega) (by omega)
  rw [verbZ_k (by omega) (by omega)]
  have e : restT { tag := tag, kind := (k : Int), mbox := [], set := [], items := 0, mode := 0, silent := false, flags := ((0 : Nat) : Int), data := [] } = [] := by
    unfold restT
    simp only
    rw [if_neg h5, if_neg h6, if_neg h7, if_neg h8]
  rw [e]
  exact h
end Go.Proofs.YtpgfnlhfciacoaaGreatDoor
