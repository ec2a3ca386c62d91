/- Layer 4 in plain words: reading inverts writing; heads of literal forms announce. No walk. -/
import Derived.Test.YtpklpfncohdlhaaDoorLitS
import Derived.Test.YtpklpfncohdlhaaDoorAnnMath
import Derived.Test.YtpklpfncohdlhaaDoorLit
namespace Go.Proofs.YtpklpfncohdlhaaDoor
open Go.RowKit
open Go.Lib hiding intOf

theorem chN_plain (c : UInt8) (r : List UInt8) (h92 : c ≠ 92) (ht : textN c.toNat = true) : chN (c :: r) = 1 ∧ chV (c :: r) = c := by
  refine ⟨?_, by unfold chV; rw [if_neg (fun e => h92 (by simpa only [List.getElem?_cons_zero, Option.some.injEq] using e))]; rfl⟩
  cases r <;> rw [chN, if_neg h92, if_pos ht]
theorem qScan_inv (b post : List UInt8) (h : allT b = true) : qScan (escL b ++ 34 :: post) = some (b, (escL b).length) := by
  induction b with
  | nil => exact q_mark _ rfl
  | cons c b ih =>
    have hc := allT_at h (c := c) (by simp)
    have hb : allT b = true := by unfold allT at h ⊢; rw [List.all_cons, Bool.and_eq_true] at h; exact h.2
    rw [escL_cons]
    by_cases hs : spN c.toNat = true
    · have e : escC c = [92, c] := by unfold escC; rw [if_pos hs]
      rw [e]
      show qScan (92 :: c :: (escL b ++ 34 :: post)) = _
      rw [qScan, if_neg (by decide), if_pos rfl, if_pos hs, ih hb]
      simp
    · have e : escC c = [c] := by unfold escC; rw [if_neg hs]
      rw [e]
      show qScan (c :: (escL b ++ 34 :: post)) = _
      have h34 : c ≠ 34 := by rintro rfl; exact hs (by decide)
      have h92 : c ≠ 92 := by rintro rfl; exact hs (by decide)
      obtain ⟨e1, e2⟩ := chN_plain c (escL b ++ 34 :: post) h92 hc
      rw [q_char _ 1 (fun e => h34 (by simpa only [List.getElem?_cons_zero, Option.some.injEq] using e)) e1 (by omega), e2]
      show (qScan (escL b ++ 34 :: post)).map _ = _
      rw [ih hb]
      simp
theorem scanQ_inv (pre b post : List UInt8) (h : allT b = true) : scanQ (pre ++ quotedL b ++ post) (pre.length : Int) = some (b, pre.length + (quotedL b).length) := by
  have e : pre ++ quotedL b ++ post = (pre ++ [34]) ++ (escL b ++ 34 :: post) := by simp [quotedL]
  have h34 : (pre ++ quotedL b ++ post)[pre.length]? = some 34 := by rw [e]; simp
  have hd : (pre ++ quotedL b ++ post).drop (pre.length + 1) = escL b ++ 34 :: post := by
    rw [e, show pre.length + 1 = (pre ++ [34]).length by simp, List.drop_left]
  rw [scanQ_yes h34, hd, qScan_inv b post h]
  simp only [Option.map_some, Option.some.injEq, Prod.mk.injEq, true_and]
  unfold quotedL
  rw [List.length_cons, List.length_append, List.length_singleton]
  omega
theorem annO_lit (n : Nat) (hn : n ≤ 4294967295) (r : List UInt8) : annO (123 :: (decDigits n ++ 125 :: r)) = some (n, (decDigits n).length + 2) := by
  unfold annO
  rw [if_pos (by simp)]
  have e1 : (123 :: (decDigits n ++ 125 :: r) : List UInt8).drop 1 = decDigits n ++ 125 :: r := rfl
  have e2 : dgL (decDigits n ++ 125 :: r) = decDigits n := takeWhile_front _ _ _ (dec_dig n) (by decide)
  rw [e1, e2, numOf_dec hn]
  simp
theorem scanL_inv (pre b post : List UInt8) (h : b.length ≤ 65536) : scanL (pre ++ literalL b ++ post) (pre.length : Int) = some (b, pre.length + (literalL b).length) := by
  obtain ⟨D, hD⟩ : ∃ D, decDigits b.length = D := ⟨_, rfl⟩
  have e : pre ++ literalL b ++ post = pre ++ 123 :: (D ++ 125 :: (13 :: 10 :: (b ++ post))) := by
    unfold literalL headL
    rw [hD]
    simp
  have ha : annX (pre ++ literalL b ++ post) (pre.length : Int) = some (b.length, D.length + 2) := by
    unfold annX
    rw [if_pos (by omega)]
    show annO ((pre ++ literalL b ++ post).drop pre.length) = _
    rw [e, List.drop_left, ← hD]
    exact annO_lit b.length (by omega) _
  rw [scanL_some ha]
  have e2 : pre ++ literalL b ++ post = (pre ++ 123 :: (D ++ [125])) ++ 13 :: 10 :: (b ++ post) := by rw [e]; simp
  have el : (pre ++ 123 :: (D ++ [125])).length = pre.length + (D.length + 2) := by simp
  have h13 : (pre ++ literalL b ++ post)[pre.length + (D.length + 2)]? = some 13 := by rw [e2, ← el]; simp
  have h10 : (pre ++ literalL b ++ post)[pre.length + (D.length + 2) + 1]? = some 10 := by
    rw [e2, ← el, List.getElem?_append_right (by omega), Nat.add_sub_cancel_left]
    rfl
  have hlen : (pre ++ literalL b ++ post).length = pre.length + (D.length + 2) + 2 + b.length + post.length := by rw [e2, List.length_append, el]; simp; omega
  rw [if_pos ⟨h, h13, h10, by rw [hlen]; omega⟩]
  have hdr : (pre ++ literalL b ++ post).drop (pre.length + (D.length + 2) + 2) = b ++ post := by
    rw [e2, ← el, ← List.drop_drop, List.drop_left]
    rfl
  rw [hdr, List.take_left']
  · congr 2
    unfold literalL headL
    rw [hD]
    simp
    omega
  · rfl

theorem ann_last' {l : List UInt8} {m n : Nat} (h : AnnL l n) (hlen : l.length = m + 1) : l[m]? = some 125 := by
  obtain ⟨_, pre, rfl⟩ := h
  have e : pre ++ 123 :: (decDigits n ++ [125]) = (pre ++ 123 :: decDigits n) ++ [125] := by simp
  rw [e] at hlen ⊢
  rw [List.length_append, List.length_singleton] at hlen
  rw [List.getElem?_append_right (by omega), show m - (pre ++ 123 :: decDigits n).length = 0 by omega]
  rfl

/-- The head of a literal form, up to its closing bracket; and one byte less. -/
theorem head_take (n : Nat) (b : List UInt8) (hb : b.length = n) : (literalL b).take ((decDigits n).length + 2) = 123 :: (decDigits n ++ [125]) ∧ (literalL b).take ((decDigits n).length + 1) = 123 :: decDigits n := by
  unfold literalL headL
  rw [hb]
  constructor
  · rw [show 123 :: (decDigits n ++ [125, 13, 10]) ++ b = (123 :: (decDigits n ++ [125])) ++ (13 :: 10 :: b) by simp, List.take_left']
    simp
  · rw [show 123 :: (decDigits n ++ [125, 13, 10]) ++ b = (123 :: decDigits n) ++ (125 :: 13 :: 10 :: b) by simp, List.take_left']
    simp
theorem ann_head (line : List UInt8) (n : Nat) (hn : n ≤ 4294967295) : IsAnn (line ++ 123 :: (decDigits n ++ [125])) (some n) := ⟨hn, line, rfl⟩
theorem ann_cut (line : List UInt8) (n : Nat) : IsAnn (line ++ 123 :: decDigits n) none := fun m hm => by
  have hne := (dec_facts n).2.2
  have e : line ++ 123 :: decDigits n = (line ++ 123 :: (decDigits n).dropLast) ++ [(decDigits n).getLast hne] := by
    conv => lhs; rw [← List.dropLast_concat_getLast hne]
    simp
  have hlen : (line ++ 123 :: decDigits n).length = (line ++ 123 :: (decDigits n).dropLast).length + 1 := by rw [e, List.length_append, List.length_singleton]
  have h := ann_last' hm hlen
  rw [e, List.getElem?_append_right (Nat.le_refl _), Nat.sub_self] at h
  have h2 : (decDigits n).getLast hne = 125 := by simpa using h
  have h3 := dec_dig n _ (List.getLast_mem hne)
  rw [h2] at h3
  exact absurd h3 (by decide)
end Go.Proofs.YtpklpfncohdlhaaDoor
