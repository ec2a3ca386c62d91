/- Lines up to the limit, as a client writes them. No walk. -/
import Derived.Test.YtpgfnlhfciacoaaGreatDoorKa
namespace Go.Proofs.YtpgfnlhfciacoaaGreatDoor
open Go.Lib hiding intOf

theorem annOf_no8 {l : List UInt8} (h : l[l.length - 1]? ≠ some 125) : annOf l = none := by
  unfold annOf
  rw [List.findSome?_eq_none_iff]
  intro k _
  rw [if_neg (fun hc => h hc.2)]
theorem annOf_yes8 {l : List UInt8} {n : Nat} (h : AnnL l n) : annOf l = some n := isAnn_eq (isAnn_of l) (show IsAnn l (some n) from h)
/-- Where a line without the byte 13 ends. -/
theorem end_plain {T post : List UInt8} (h : ∀ c ∈ T, c ≠ 13) : endOf (T ++ 13 :: 10 :: post) 0 = some T.length := by
  refine endOf_some.2 ⟨by omega, ⟨by simp, by simp⟩, fun j _ hj hm => ?_⟩
  have h1 := hm.1
  rw [List.getElem?_append_left hj, List.getElem?_eq_getElem hj] at h1
  exact h _ (List.getElem_mem hj) (Option.some.inj h1)
theorem sent_plain {T : List UInt8} (h : ∀ c ∈ T, c ≠ 13) (hn : T.length ≤ 8192) (ha : annOf T = none) : Sent T 0 := by
  have h1 := stepF_command (end_plain (post := []) h) (by omega) (by rw [List.take_left', List.drop_zero]; exact ha; rfl)
  rw [List.take_left' rfl] at h1
  have h2 : (T ++ 13 :: 10 :: []).drop (T.length + 2) = [] := List.drop_eq_nil_of_le (by simp)
  rw [h2] at h1
  exact ⟨[], .cons h1 (.nil _ _), rfl⟩
theorem not_sent_long {T : List UInt8} (h : ∀ c ∈ T, c ≠ 13) (hn : 8192 < T.length) : ¬ ∃ k, Sent T k := by
  rintro ⟨k, fs, hr, _⟩
  have h1 := stepF_long (end_plain (post := []) h) (by omega)
  have h2 : (T ++ 13 :: 10 :: []).drop (T.length + 2) = [] := List.drop_eq_nil_of_le (by simp)
  rw [h2] at h1
  have d0 : Done ([] : List UInt8) 0 := endOf_past (by simp)
  have h3 : Runs (T ++ [13, 10]) 0 [⟨3, ((T ++ [13, 10]).drop 0).take 8192⟩] [] 0 := .cons h1 (.nil _ _)
  obtain ⟨e, _, _⟩ := hr.det d0 h3 d0
  have hl := congrArg List.length e
  rw [List.length_append] at hl
  simp only [List.length_cons, List.length_nil] at hl
  obtain rfl : fs = [] := List.eq_nil_of_length_eq_zero (by omega)
  simp at e
/-- A line that announces a literal, the literal, and an empty line behind it. -/
theorem sent_lit {P : List UInt8} {n : Nat} {D : List UInt8} (hP : ∀ c ∈ P, c ≠ 13) (hl : P.length ≤ 8192) (ha : annOf P = some n) (hn : n ≤ 65536) (hD : D.length = n) : Sent (P ++ 13 :: 10 :: D) 1 := by
  have e1 := end_plain (post := D ++ [13, 10]) hP
  have h1 := stepF_ready (n := n) e1 (by omega) (by rw [List.take_left', List.drop_zero]; exact ha; rfl) (by omega)
  have eT : P ++ 13 :: 10 :: (D ++ [13, 10]) = (P ++ 13 :: 10 :: D) ++ [13, 10] := by simp
  have hTl : (P ++ 13 :: 10 :: D).length = P.length + 2 + n := by simp [hD]; omega
  rw [eT] at h1
  have e2 : endOf ((P ++ 13 :: 10 :: D) ++ [13, 10]) (P.length + 2 + n) = some (P.length + 2 + n) := by
    refine endOf_some.2 ⟨Nat.le_refl _, ?_, fun j hj1 hj2 => by omega⟩
    rw [← hTl]
    generalize P ++ 13 :: 10 :: D = X
    unfold Mark
    constructor <;> simp
  have h2 := stepF_command e2 (by omega) (by
    rw [List.drop_eq_nil_of_le (by rw [List.length_take]; omega)]
    exact annOf_no8 (by simp))
  rw [← hTl, List.take_left' rfl] at h2
  have h3 : ∀ X : List UInt8, (X ++ [13, 10]).drop (X.length + 2) = [] := fun X => List.drop_eq_nil_of_le (by simp)
  rw [h3] at h2
  rw [← hTl] at h1
  exact ⟨[⟨2, []⟩], .cons h1 (.cons h2 (.nil _ _)), rfl⟩

def selC (s : List UInt8) : CI := ⟨[97], 5, s, [], 0, 0, false, 0, []⟩
def selP : List UInt8 := [97, 32, 83, 69, 76, 69, 67, 84, 32]
theorem sel_valid {s : List UInt8} (h : s.length ≤ 65536) : validC (selC s) = true := by
  unfold validC
  have h1 : okC (selC s) = true := rfl
  have h2 : shortC (selC s) = true := by
    unfold shortC selC
    simp [h]
  have h3 : sameC (selC s) (ownC (selC s)) = true := by
    have e : ownC (selC s) = selC s := rfl
    rw [e]
    simp [sameC]
  have h4 : allL tagN (selC s).tag = true := (show allL tagN [97] = true by decide)
  have h5 : (selC s).flags = 0 := rfl
  rw [h1, h2, h3, h4, h5]
  rfl
theorem sel_f (s : List UInt8) : 0 ≤ (selC s).flags ∧ (selC s).flags ≤ 255 := (show (0 : Int) ≤ 0 ∧ (0 : Int) ≤ 255 by decide)
theorem sel_t (s : List UInt8) : (selC s).tag.length ≤ 100000 := (show 1 ≤ 100000 by decide)
theorem sel_s (s : List UInt8) : (selC s).set.length ≤ 10000 := (show 0 ≤ 10000 by decide)
theorem sel_d (s : List UInt8) : (selC s).data.length ≤ 100000 := (show 0 ≤ 100000 by decide)
theorem sel_text (s : List UInt8) : textT (selC s) = selP ++ mboxT s := by
  unfold textT restT selC
  simp only [if_true]
  have hv : verbZ 5 = [83, 69, 76, 69, 67, 84] := by decide
  rw [hv]
  rfl
theorem selP_ne : ∀ c ∈ selP, c ≠ 13 := by decide
theorem rep_ne {n : Nat} {x : UInt8} (h : x ≠ 13) : ∀ c ∈ List.replicate n x, c ≠ 13 := fun c hc => by
  rw [List.eq_of_mem_replicate hc]
  exact h
theorem mbox_x {n : Nat} (h : 0 < n) : mboxT (List.replicate n 120) = List.replicate n 120 := by
  unfold mboxT
  rw [if_pos]
  unfold allL
  rw [Bool.and_eq_true]
  refine ⟨by cases n with
    | zero => omega
    | succ n => rfl, ?_⟩
  rw [List.all_eq_true]
  intro c hc
  rw [List.eq_of_mem_replicate hc]
  decide
theorem selX {n : Nat} (h1 : 1 ≤ n) : textT (selC (List.replicate n 120)) = selP ++ List.replicate n 120 := by rw [sel_text, mbox_x h1]
theorem selX_ne {n : Nat} : ∀ c ∈ selP ++ List.replicate n 120, c ≠ 13 := fun c hc => by
  rcases List.mem_append.1 hc with hc | hc
  · exact selP_ne c hc
  · exact rep_ne (by decide) c hc
theorem selX_ann {n : Nat} (h1 : 1 ≤ n) : annOf (selP ++ List.replicate n 120) = none := by
  refine annOf_no8 fun h => ?_
  have hl : (selP ++ List.replicate n 120).length - 1 = selP.length + (n - 1) := by rw [List.length_append, List.length_replicate]; omega
  rw [hl, List.getElem?_append_right (by omega), Nat.add_sub_cancel_left, List.getElem?_replicate_of_lt (by omega)] at h
  exact absurd (Option.some.inj h) (by decide)
theorem mbox_0 {n : Nat} (h : 0 < n) : mboxT (List.replicate n 0) = literalL (List.replicate n 0) := by
  obtain ⟨m, rfl⟩ : ∃ m, n = m + 1 := ⟨n - 1, by omega⟩
  have h1 : allL atomN (List.replicate (m + 1) (0 : UInt8)) = false := by
    unfold allL
    rw [List.replicate_succ, List.all_cons]
    have : atomN (0 : UInt8).toNat = false := by decide
    rw [this]
    rfl
  have h2 : allT (List.replicate (m + 1) (0 : UInt8)) = false := by
    unfold allT
    rw [List.replicate_succ, List.all_cons]
    have : textN (0 : UInt8).toNat = false := by decide
    rw [this]
    rfl
  unfold mboxT bestL
  rw [if_neg (by rw [h1]; decide), if_neg (by rw [h2]; decide)]
theorem sel0 {n : Nat} (h : 0 < n) : textT (selC (List.replicate n 0)) = (selP ++ 123 :: (decDigits n ++ [125])) ++ 13 :: 10 :: List.replicate n 0 := by
  rw [sel_text, mbox_0 h]
  unfold literalL headL
  rw [List.length_replicate]
  simp
theorem sel0_ne {n : Nat} : ∀ c ∈ selP ++ 123 :: (decDigits n ++ [125]), c ≠ 13 := fun c hc => by
  rcases List.mem_append.1 hc with hc | hc
  · exact selP_ne c hc
  · rcases List.mem_cons.1 hc with rfl | hc
    · decide
    · rcases List.mem_append.1 hc with hc | hc
      · intro e
        have := dec_dig n c hc
        rw [e] at this
        exact absurd this (by decide)
      · obtain rfl := List.mem_singleton.1 hc
        decide
/-- The two commands of ClientLong. -/
theorem long_x {n m : Nat} (h : m + 9 = n) (h1 : 8191 ≤ n) (h2 : n ≤ 8193) : validC (selC (List.replicate m 120)) = true ∧ (textT (selC (List.replicate m 120))).length = n ∧ (n ≤ 8192 → Sent (textT (selC (List.replicate m 120))) 0) ∧ (8192 < n → ¬ ∃ k, Sent (textT (selC (List.replicate m 120))) k) := by
  have hl : (textT (selC (List.replicate m 120))).length = n := by
    rw [selX (by omega), List.length_append, List.length_replicate]
    show 9 + m = n
    omega
  refine ⟨sel_valid (by rw [List.length_replicate]; omega), hl, fun hn => ?_, fun hn => ?_⟩
  · rw [selX (by omega)] at hl ⊢
    exact sent_plain selX_ne (by omega) (selX_ann (by omega))
  · rw [selX (by omega)] at hl ⊢
    exact not_sent_long selX_ne (by omega)
theorem long_0 {n : Nat} (h1 : 8191 ≤ n) (h2 : n ≤ 8193) : validC (selC (List.replicate n 0)) = true ∧ Sent (textT (selC (List.replicate n 0))) 1 ∧ n < (textT (selC (List.replicate n 0)) ++ [13, 10]).length ∧ (textT (selC (List.replicate n 0)) ++ [13, 10]).length ≤ 10000 := by
  have hd := dec_len (u := n) (by omega)
  have hpl : (selP ++ 123 :: (decDigits n ++ [125])).length ≤ 100 := by
    rw [List.length_append, List.length_cons, List.length_append]
    show 9 + _ ≤ 100
    simp only [List.length_cons, List.length_nil]
    omega
  refine ⟨sel_valid (by rw [List.length_replicate]; omega), ?_, ?_, ?_⟩
  · rw [sel0 (by omega)]
    exact sent_lit sel0_ne (by omega) (annOf_yes8 ⟨by omega, selP, rfl⟩) (by omega) (by rw [List.length_replicate])
  · rw [sel0 (by omega), List.length_append, List.length_append, List.length_cons, List.length_cons, List.length_replicate]
    omega
  · rw [sel0 (by omega), List.length_append, List.length_append, List.length_cons, List.length_cons, List.length_replicate]
    simp only [List.length_cons, List.length_nil]
    omega
end Go.Proofs.YtpgfnlhfciacoaaGreatDoor
