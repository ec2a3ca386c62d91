/- reply: a response read step by step, in plain words; what it reads is what was written. No walk. -/
import Derived.Test.YtpoejnajnaolpaaGreatDoorRpGuess2
import Derived.Test.YtpoejnajnaolpaaGreatDoorGn
namespace Go.Proofs.YtpoejnajnaolpaaGreatDoor
open Go.RowKit
open Go.Lib hiding intOf

inductive St
  | begin | untagged | number | items | text | tag | fin
/-- A word, the kind that it tells, the step behind it. -/
structure Cw where
  word : List UInt8
  kind : Int
  st : St
def txB (c : UInt8) : Bool := textN c.toNat
def tgB (c : UInt8) : Bool := tagN c.toNat
def csB : List Cw := [⟨[42, 32], 0, .untagged⟩, ⟨[43, 32], 10, .text⟩, ⟨[], 9, .tag⟩]
def csU : List Cw := [⟨[79, 75, 32], 6, .text⟩, ⟨[66, 89, 69, 32], 7, .text⟩, ⟨[66, 65, 68, 32], 8, .text⟩, ⟨[70, 76, 65, 71, 83, 32] ++ listL 31, 5, .fin⟩, ⟨[], 0, .number⟩]
def csN : List Cw := [⟨[32, 69, 88, 73, 83, 84, 83], 1, .fin⟩, ⟨[32, 82, 69, 67, 69, 78, 84], 2, .fin⟩, ⟨[32, 69, 88, 80, 85, 78, 71, 69], 3, .fin⟩, ⟨[32, 70, 69, 84, 67, 72, 32, 40], 4, .items⟩]
def choP (cs : List Cw) (l : List UInt8) (r : RI) : Option (St × List UInt8 × RI) := (cs.find? fun x => x.word.isPrefixOf l).map fun x => (x.st, l.drop x.word.length, { r with kind := x.kind })
def itN : Nat → List UInt8
  | 0 => [70, 76, 65, 71, 83, 32]
  | 1 => [85, 73, 68, 32]
  | 2 => [82, 70, 67, 56, 50, 50, 46, 83, 73, 90, 69, 32]
  | _ => [66, 79, 68, 89, 91, 93, 32]
def itB : Nat → Int
  | 0 => 1
  | 1 => 2
  | 2 => 4
  | _ => 16
def flgK (l : List UInt8) (r : RI) : Option (List UInt8 × RI) :=
  match parseF (l.takeWhile (· != 41) ++ [41]) with
  | some f => if listL f = l.takeWhile (· != 41) ++ [41] ∧ [41].isPrefixOf (l.drop (l.takeWhile (· != 41)).length) = true then some ((l.drop (l.takeWhile (· != 41)).length).drop 1, { r with flags := f }) else none
  | none => none
def readK : Nat → List UInt8 → RI → Option (List UInt8 × RI)
  | 0, l, r => flgK l r
  | 1, l, r => (numOf (l.takeWhile isDig)).map fun u => (l.drop (l.takeWhile isDig).length, { r with uid := u })
  | 2, l, r => (numOf (l.takeWhile isDig)).map fun u => (l.drop (l.takeWhile isDig).length, { r with size := u })
  | _, l, r => (litO l).map fun t => (l.drop t.2, { r with body := t.1 })
def nmK (k : Nat) (r : RI) : List UInt8 := if r.items = 0 then itN k else 32 :: itN k
def itemK (k : Nat) (l : List UInt8) (r : RI) : Option (List UInt8 × RI) :=
  if (nmK k r).isPrefixOf l = true then (readK k (l.drop (nmK k r).length) r).map fun p => (p.1, { p.2 with items := bits BinOp.or IntKind.i64 r.items (itB k) }) else some (l, r)
def itR : Nat → List UInt8 → RI → Option (List UInt8 × RI)
  | 0, l, r => some (l, r)
  | n + 1, l, r => (itemK (3 - n) l r).bind fun p => itR n p.1 p.2
def staP (l : List UInt8) (r : RI) : Option (St × List UInt8 × RI) :=
  if [32, 79, 75, 32].isPrefixOf l = true then some (.text, l.drop 4, { r with status := 0 })
  else if [32, 78, 79, 32].isPrefixOf l = true then some (.text, l.drop 4, { r with status := 1 })
  else if [32, 66, 65, 68, 32].isPrefixOf l = true then some (.text, l.drop 5, { r with status := 2 })
  else none
/-- One step: what it leaves to do, the rest, the response so far. -/
def nextP : St → List UInt8 → RI → Option (St × List UInt8 × RI)
  | .begin, l, r => choP csB l r
  | .untagged, l, r => choP csU l r
  | .number, l, r => (numOf (l.takeWhile isDig)).bind fun u => choP csN (l.drop (l.takeWhile isDig).length) { r with n := u }
  | .items, l, r => (itR 4 l r).bind fun p => if p.2.items ≠ 0 ∧ [41].isPrefixOf p.1 = true then some (.fin, p.1.drop 1, p.2) else none
  | .text, l, r => if l.takeWhile txB = [] then none else some (.fin, l.drop (l.takeWhile txB).length, { r with text := l.takeWhile txB })
  | .tag, l, r => if l.takeWhile tgB = [] then none else staP (l.drop (l.takeWhile tgB).length) { r with tag := l.takeWhile tgB }
  | .fin, _, _ => none
def endP (l : List UInt8) (r : RI) : Option (RI × List UInt8) := if [13, 10].isPrefixOf l = true then some (r, l.drop 2) else none
def rank : St → Nat
  | .begin => 5
  | .untagged => 4
  | .number => 3
  | .items => 2
  | .tag => 2
  | .text => 1
  | .fin => 0
def runF : Nat → St → List UInt8 → RI → Option (RI × List UInt8)
  | _, .fin, l, r => endP l r
  | 0, _, _, _ => none
  | n + 1, s, l, r => (nextP s l r).bind fun p => runF n p.1 p.2.1 p.2.2
def runP (s : St) (l : List UInt8) (r : RI) : Option (RI × List UInt8) := runF (rank s) s l r

theorem cho_some {cs : List Cw} {l : List UInt8} {r : RI} {p : St × List UInt8 × RI} (h : choP cs l r = some p) : ∃ x ∈ cs, l = x.word ++ p.2.1 ∧ p.1 = x.st ∧ p.2.2 = { r with kind := x.kind } := by
  unfold choP at h
  rw [Option.map_eq_some_iff] at h
  obtain ⟨x, hx, rfl⟩ := h
  refine ⟨x, List.mem_of_find?_eq_some hx, ?_, rfl, rfl⟩
  have hp := List.find?_some hx
  rw [List.isPrefixOf_iff_prefix] at hp
  exact (List.prefix_iff_eq_append.1 hp).symm
theorem next_rank {s : St} {l : List UInt8} {r : RI} {p : St × List UInt8 × RI} (h : nextP s l r = some p) : rank p.1 < rank s := by
  cases s with
  | begin =>
    obtain ⟨x, hx, -, e, -⟩ := cho_some h
    simp only [csB, List.mem_cons, List.not_mem_nil, or_false] at hx
    rcases hx with rfl | rfl | rfl <;> (rw [e]; decide)
  | untagged =>
    obtain ⟨x, hx, -, e, -⟩ := cho_some h
    simp only [csU, List.mem_cons, List.not_mem_nil, or_false] at hx
    rcases hx with rfl | rfl | rfl | rfl | rfl <;> (rw [e]; decide)
  | number =>
    simp only [nextP, Option.bind_eq_some_iff] at h
    obtain ⟨u, -, h⟩ := h
    obtain ⟨x, hx, -, e, -⟩ := cho_some h
    simp only [csN, List.mem_cons, List.not_mem_nil, or_false] at hx
    rcases hx with rfl | rfl | rfl | rfl <;> (rw [e]; decide)
  | items =>
    simp only [nextP, Option.bind_eq_some_iff] at h
    obtain ⟨q, -, h⟩ := h
    split at h
    · obtain rfl := Option.some.inj h
      show (0 : Nat) < 2
      omega
    · cases h
  | text =>
    simp only [nextP] at h
    split at h
    · cases h
    · obtain rfl := Option.some.inj h
      show (0 : Nat) < 1
      omega
  | tag =>
    simp only [nextP, staP] at h
    split at h
    · cases h
    · split at h
      · obtain rfl := Option.some.inj h
        show (1 : Nat) < 2
        omega
      · split at h
        · obtain rfl := Option.some.inj h
          show (1 : Nat) < 2
          omega
        · split at h
          · obtain rfl := Option.some.inj h
            show (1 : Nat) < 2
            omega
          · cases h
  | fin => cases h
theorem rank_pos {s : St} (hs : s ≠ .fin) : ∃ k, rank s = k + 1 := by
  cases s with
  | fin => exact absurd rfl hs
  | _ => exact ⟨_, rfl⟩
theorem runF_succ {s : St} (hs : s ≠ .fin) (n : Nat) (l : List UInt8) (r : RI) : runF (n + 1) s l r = (nextP s l r).bind fun p => runF n p.1 p.2.1 p.2.2 := by
  cases s with
  | fin => exact absurd rfl hs
  | _ => rfl
theorem runF_more : ∀ (n : Nat) (s : St) (l : List UInt8) (r : RI), rank s ≤ n → runF n s l r = runF (rank s) s l r := by
  intro n
  induction n using Nat.strongRecOn with
  | _ n ih =>
    intro s l r hn
    by_cases hs : s = .fin
    · subst hs
      cases n <;> rfl
    · obtain ⟨k, hk⟩ := rank_pos hs
      obtain ⟨m, rfl⟩ : ∃ m, n = m + 1 := ⟨n - 1, by omega⟩
      rw [hk, runF_succ hs, runF_succ hs]
      cases hp : nextP s l r with
      | none => rfl
      | some p =>
        have := next_rank hp
        show runF m p.1 p.2.1 p.2.2 = runF k p.1 p.2.1 p.2.2
        rw [ih m (by omega) _ _ _ (by omega), ih k (by omega) _ _ _ (by omega)]
theorem runP_fin (l : List UInt8) (r : RI) : runP .fin l r = endP l r := rfl
theorem runP_next {s : St} (hs : s ≠ .fin) (l : List UInt8) (r : RI) : runP s l r = (nextP s l r).bind fun p => runP p.1 p.2.1 p.2.2 := by
  obtain ⟨k, hk⟩ := rank_pos hs
  unfold runP
  rw [hk, runF_succ hs]
  cases hp : nextP s l r with
  | none => rfl
  | some p =>
    have := next_rank hp
    exact runF_more k _ _ _ (by omega)

/-! ### What is read is what was written -/
theorem tw_app (p : UInt8 → Bool) (l : List UInt8) : l = l.takeWhile p ++ l.drop (l.takeWhile p).length := (List.prefix_iff_eq_append.1 (List.takeWhile_prefix p)).symm
theorem end_some {l t : List UInt8} {r q : RI} (h : endP l r = some (q, t)) : q = r ∧ l = [13, 10] ++ t := by
  unfold endP at h
  split at h
  · rename_i hp
    rw [List.isPrefixOf_iff_prefix] at hp
    obtain ⟨rfl, rfl⟩ := Prod.mk.inj (Option.some.inj h)
    exact ⟨rfl, (List.prefix_iff_eq_append.1 hp).symm⟩
  · cases h
theorem text_some {l t : List UInt8} {r q : RI} (h : runP .text l r = some (q, t)) : ∃ x, txtL x = true ∧ l = x ++ ([13, 10] ++ t) ∧ q = { r with text := x } := by
  rw [runP_next (by simp), Option.bind_eq_some_iff] at h
  obtain ⟨p, hp, h⟩ := h
  simp only [nextP] at hp
  split at hp
  · cases hp
  · rename_i hne
    obtain rfl := Option.some.inj hp
    obtain ⟨rfl, e⟩ := end_some h
    refine ⟨l.takeWhile txB, ?_, ?_, rfl⟩
    · unfold txtL
      rw [Bool.and_eq_true]
      exact ⟨by simpa using hne, List.all_takeWhile⟩
    · rw [← e]
      exact tw_app _ _
theorem sta_some {l : List UInt8} {r : RI} {p : St × List UInt8 × RI} (h : staP l r = some p) : ∃ s : Int, (0 ≤ s ∧ s ≤ 2) ∧ l = [32] ++ rsStat s ++ [32] ++ p.2.1 ∧ p.1 = .text ∧ p.2.2 = { r with status := s } := by
  unfold staP at h
  split at h
  · rename_i hp
    rw [List.isPrefixOf_iff_prefix] at hp
    obtain rfl := Option.some.inj h
    exact ⟨0, by decide, (List.prefix_iff_eq_append.1 hp).symm, rfl, rfl⟩
  · split at h
    · rename_i hp
      rw [List.isPrefixOf_iff_prefix] at hp
      obtain rfl := Option.some.inj h
      exact ⟨1, by decide, (List.prefix_iff_eq_append.1 hp).symm, rfl, rfl⟩
    · split at h
      · rename_i hp
        rw [List.isPrefixOf_iff_prefix] at hp
        obtain rfl := Option.some.inj h
        exact ⟨2, by decide, (List.prefix_iff_eq_append.1 hp).symm, rfl, rfl⟩
      · cases h
theorem tag_some {l t : List UInt8} {r q : RI} (h : runP .tag l r = some (q, t)) : ∃ g s x, tgL g = true ∧ (0 ≤ s ∧ s ≤ 2) ∧ txtL x = true ∧ l = g ++ [32] ++ rsStat s ++ [32] ++ x ++ [13, 10] ++ t ∧ q = { r with tag := g, status := s, text := x } := by
  rw [runP_next (by simp), Option.bind_eq_some_iff] at h
  obtain ⟨p, hp, h⟩ := h
  simp only [nextP] at hp
  split at hp
  · cases hp
  · rename_i hne
    obtain ⟨s, hs, e1, e2, e3⟩ := sta_some hp
    rw [e2] at h
    obtain ⟨x, hx, e4, rfl⟩ := text_some h
    refine ⟨l.takeWhile tgB, s, x, ?_, hs, hx, ?_, by rw [e3]⟩
    · unfold tgL
      rw [Bool.and_eq_true]
      exact ⟨by simpa using hne, List.all_takeWhile⟩
    · conv => lhs; rw [tw_app tgB l, e1, e4]
      simp
theorem lit_some {l : List UInt8} {t : List UInt8 × Nat} (h : litO l = some t) : l = literalL t.1 ++ l.drop t.2 ∧ t.1.length ≤ 65536 := by
  unfold litO annO at h
  split at h
  · rename_i n j ha
    split at ha
    · rename_i h0
      split at ha
      · rename_i n' hn
        split at ha
        · rename_i h125
          obtain ⟨rfl, rfl⟩ := Prod.mk.inj (Option.some.inj ha)
          split at h
          · rename_i hc
            obtain rfl := Option.some.inj h
            obtain ⟨c1, c2, c3, c4⟩ := hc
            obtain ⟨hb, hd⟩ := numOf_some hn
            cases l with
            | nil => cases h0
            | cons c l =>
              simp only [List.getElem?_cons_zero, Option.some.injEq] at h0
              subst h0
              rw [show (123 :: l).drop 1 = l from rfl] at *
              have hD : l = decDigits n' ++ l.drop (decDigits n').length := by
                have := tw_app isDig l
                unfold dgL at hd
                rw [← hd] at this
                exact this
              unfold dgL at hd h125 c2 c3 c4
              unfold dgL
              rw [← hd] at h125 c2 c3 c4 ⊢
              obtain ⟨D, hDn⟩ : ∃ D, decDigits n' = D := ⟨_, rfl⟩
              rw [hDn] at hD h125 c2 c3 c4 ⊢
              obtain ⟨m, hm⟩ : ∃ m, l.drop D.length = m := ⟨_, rfl⟩
              rw [hm] at hD
              subst hD
              have e0 : (D ++ m)[D.length]? = m[0]? := by rw [List.getElem?_append_right (Nat.le_refl _), Nat.sub_self]
              have e1 : (123 :: (D ++ m))[D.length + 2]? = m[1]? := by rw [List.getElem?_cons_succ, List.getElem?_append_right (by omega), Nat.add_sub_cancel_left]
              have e2 : (123 :: (D ++ m))[D.length + 2 + 1]? = m[2]? := by rw [List.getElem?_cons_succ, List.getElem?_append_right (by omega), Nat.add_sub_cancel_left]
              rw [e0] at h125
              rw [e1] at c2
              rw [e2] at c3
              obtain ⟨y, rfl⟩ : ∃ y, m = 125 :: 13 :: 10 :: y := by
                match m, h125, c2, c3 with
                | a :: b :: c :: y, h1, h2, h3 =>
                  simp only [List.getElem?_cons_zero, List.getElem?_cons_succ, Option.some.injEq] at h1 h2 h3
                  exact ⟨y, by rw [h1, h2, h3]⟩
                | [], h1, _, _ => cases h1
                | [_], _, h2, _ => cases h2
                | [_, _], _, _, h3 => cases h3
              have hd2 : (123 :: (D ++ 125 :: 13 :: 10 :: y)).drop (D.length + 2 + 2) = y := by
                rw [show D.length + 2 + 2 = (D.length + 3) + 1 by omega, List.drop_succ_cons, ← List.drop_drop, List.drop_left]
                rfl
              have hl2 : (123 :: (D ++ 125 :: 13 :: 10 :: y)).length = D.length + 4 + y.length := by simp; omega
              rw [hl2] at c4
              have hyl : (y.take n').length = n' := by rw [List.length_take]; omega
              dsimp only
              rw [hd2]
              refine ⟨?_, by rw [hyl]; exact c1⟩
              have hd3 : (123 :: (D ++ 125 :: 13 :: 10 :: y)).drop (D.length + 2 + 2 + n') = y.drop n' := by rw [← List.drop_drop, hd2]
              rw [hd3]
              unfold literalL headL
              rw [hyl, hDn]
              simp
          · cases h
        · cases ha
      · cases ha
    · cases ha
  · cases h
end Go.Proofs.YtpoejnajnaolpaaGreatDoor
