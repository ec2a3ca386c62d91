/- What the reference of layer 10 guesses of the items of a FETCH: it is what was written. No walk. -/
import Derived.Test.YtpoejnajnaolpaaGreatDoorRpInj
import Derived.Test.YtpoejnajnaolpaaGreatDoorGb
namespace Go.Proofs.YtpoejnajnaolpaaGreatDoor
open Go.RowKit
open Go.Lib hiding intOf

def numT (s : List UInt8) : Option (Nat × List UInt8) := (numOf ((s.take 11).takeWhile isDig)).map fun u => (u, s.drop ((s.take 11).takeWhile isDig).length)
def flgT (s : List UInt8) : Option (Nat × List UInt8) := if (s.takeWhile (· != 41)).length = s.length then none else (parseF (s.takeWhile (· != 41) ++ [41])).map fun f => (f, s.drop ((s.takeWhile (· != 41)).length + 1))
theorem numT_dec {u : Nat} (hu : u ≤ 4294967295) {c : UInt8} (hc : isDig c = false) (x : List UInt8) : numT (decDigits u ++ c :: x) = some (u, c :: x) := by
  obtain ⟨a1, a2, _⟩ := dec_facts u
  have hl : (decDigits u).length ≤ 10 := by
    rcases Nat.lt_or_ge 10 (decDigits u).length with h | h
    · have := numOf_long h
      rw [numOf_dec hu] at this
      cases this
    · exact h
  have e : ((decDigits u ++ c :: x).take 11).takeWhile isDig = decDigits u := by
    rw [List.take_append, List.take_of_length_le (by omega)]
    obtain ⟨k, hk⟩ : ∃ k, 11 - (decDigits u).length = k + 1 := ⟨10 - (decDigits u).length, by omega⟩
    rw [hk, List.take_succ_cons, List.takeWhile_append_of_pos (fun y hy => List.all_eq_true.1 a1 y hy)]
    simp [hc]
  unfold numT
  rw [e, numOf_dec hu]
  simp
theorem list_41 : ∀ f : Fin 32, ((listL f.val).takeWhile (· != 41)) ++ [41] = listL f.val := by decide +kernel
theorem flgT_list {f : Nat} (hf : f ≤ 31) (x : List UInt8) : flgT (listL f ++ x) = some (f, x) := by
  have h := list_41 ⟨f, by omega⟩
  dsimp only at h
  obtain ⟨p, hp⟩ : ∃ p, (listL f).takeWhile (· != 41) = p := ⟨_, rfl⟩
  rw [hp] at h
  have hn : ∀ y ∈ p, (y != 41) = true := by
    rw [← hp]
    intro y hy
    exact List.all_eq_true.1 List.all_takeWhile y hy
  have e : (listL f ++ x).takeWhile (· != 41) = p := by
    rw [← h, List.append_assoc, List.takeWhile_append_of_pos hn]
    simp
  unfold flgT
  rw [e, h, if_neg (by rw [← h]; simp), parse_printed f (by omega)]
  have h31 : ∀ g : Fin 32, g.val &&& 31 = g.val := by decide
  have := h31 ⟨f, by omega⟩
  dsimp only at this
  rw [this, ← h]
  simp

section
variable (lit : List UInt8 → Option (List UInt8 × Nat))
/-- One item from here on: which, the response with it, the rest. -/
def itemM (s : List UInt8) (r : RI) : Option (Int × RI × List UInt8) :=
  if [70, 76, 65, 71, 83, 32].isPrefixOf s then (flgT (s.drop 6)).map fun t => (1, { r with flags := t.1 }, t.2)
  else if [85, 73, 68, 32].isPrefixOf s then (numT (s.drop 4)).map fun t => (2, { r with uid := t.1 }, t.2)
  else if [82, 70, 67, 56, 50, 50, 46, 83, 73, 90, 69, 32].isPrefixOf s then (numT (s.drop 12)).map fun t => (4, { r with size := t.1 }, t.2)
  else if [66, 79, 68, 89, 91, 93, 32].isPrefixOf s then (lit (s.drop 7)).map fun t => (16, { r with body := t.1 }, (s.drop 7).drop t.2)
  else none
/-- The items from here on. -/
def fetM : Nat → List UInt8 → RI → RI
  | 0, _, _ => rsZero
  | k + 1, s, r => match itemM lit s r with
    | none => rsZero
    | some (i, q, t) =>
      if i ≤ r.items then rsZero
      else if [41, 13, 10].isPrefixOf t then { q with items := bits BinOp.or IntKind.i64 r.items i }
      else match t with
        | 32 :: t => fetM k t { q with items := bits BinOp.or IntKind.i64 r.items i }
        | _ => rsZero
variable {lit}
theorem item_f (g : Nat) (hg : g ≤ 31) (x : List UInt8) (r : RI) : itemM lit ([70, 76, 65, 71, 83, 32] ++ listL g ++ x) r = some (1, { r with flags := g }, x) := by
  have e : (([70, 76, 65, 71, 83, 32] ++ listL g ++ x).drop 6) = listL g ++ x := by simp
  unfold itemM
  rw [if_pos (by simp [List.isPrefixOf]), e, flgT_list hg]
  rfl
theorem item_u (n : Nat) (hn : n ≤ 4294967295) {c : UInt8} (hc : EndC c) (x : List UInt8) (r : RI) : itemM lit ([85, 73, 68, 32] ++ decDigits n ++ c :: x) r = some (2, { r with uid := n }, c :: x) := by
  have e : (([85, 73, 68, 32] ++ decDigits n ++ c :: x).drop 4) = decDigits n ++ c :: x := by simp
  unfold itemM
  rw [if_neg (by simp [List.isPrefixOf]), if_pos (by simp [List.isPrefixOf]), e, numT_dec hn hc.nd]
  rfl
theorem item_z (n : Nat) (hn : n ≤ 4294967295) {c : UInt8} (hc : EndC c) (x : List UInt8) (r : RI) : itemM lit ([82, 70, 67, 56, 50, 50, 46, 83, 73, 90, 69, 32] ++ decDigits n ++ c :: x) r = some (4, { r with size := n }, c :: x) := by
  have e : (([82, 70, 67, 56, 50, 50, 46, 83, 73, 90, 69, 32] ++ decDigits n ++ c :: x).drop 12) = decDigits n ++ c :: x := by simp
  unfold itemM
  rw [if_neg (by simp [List.isPrefixOf]), if_neg (by simp [List.isPrefixOf]), if_pos (by simp [List.isPrefixOf]), e, numT_dec hn hc.nd]
  rfl
theorem item_b (hlit : ∀ b post : List UInt8, b.length ≤ 65536 → lit (literalL b ++ post) = some (b, (literalL b).length)) (l : List UInt8) (hl : l.length ≤ 65536) (x : List UInt8) (r : RI) : itemM lit ([66, 79, 68, 89, 91, 93, 32] ++ literalL l ++ x) r = some (16, { r with body := l }, x) := by
  have e : (([66, 79, 68, 89, 91, 93, 32] ++ literalL l ++ x).drop 7) = literalL l ++ x := by simp
  unfold itemM
  rw [if_neg (by simp [List.isPrefixOf]), if_neg (by simp [List.isPrefixOf]), if_neg (by simp [List.isPrefixOf]), if_pos (by simp [List.isPrefixOf]), e, hlit l x hl]
  simp
end

/-- The parts, by which items are asked for. -/
def partsB (b1 b2 b4 b16 : Bool) (f u z : Nat) (l : List UInt8) : List (List UInt8) :=
  (if b1 = true then [[70, 76, 65, 71, 83, 32] ++ listL f] else []) ++ ((if b2 = true then [[85, 73, 68, 32] ++ decDigits u] else []) ++
  ((if b4 = true then [[82, 70, 67, 56, 50, 50, 46, 83, 73, 90, 69, 32] ++ decDigits z] else []) ++ (if b16 = true then [[66, 79, 68, 89, 91, 93, 32] ++ literalL l] else [])))
def itemsB (b1 b2 b4 b16 : Bool) : Int := (if b1 = true then 1 else 0) + (if b2 = true then 2 else 0) + (if b4 = true then 4 else 0) + (if b16 = true then 16 else 0)
/-- The response of a FETCH under way. -/
def rpR (n : Nat) (it : Int) (f u z : Nat) (l : List UInt8) : RI := ⟨4, n, [], 0, [], it, f, u, z, l⟩
theorem fet_one {lit : List UInt8 → Option (List UInt8 × Nat)} {k n f u z f' u' z' : Nat} {l l' p x : List UInt8} {i it : Int} (hi : itemM lit (p ++ 41 :: (13 :: 10 :: x)) (rpR n it f u z l) = some (i, rpR n it f' u' z' l', 41 :: (13 :: 10 :: x))) (hr : ¬ i ≤ it) :
    fetM lit (k + 1) (p ++ 41 :: (13 :: 10 :: x)) (rpR n it f u z l) = rpR n (bits BinOp.or IntKind.i64 it i) f' u' z' l' := by
  rw [fetM, hi]
  simp only []
  rw [show (rpR n it f u z l).items = it from rfl, if_neg hr, if_pos (by simp [List.isPrefixOf])]
  rfl
theorem fet_more {lit : List UInt8 → Option (List UInt8 × Nat)} {k n f u z f' u' z' : Nat} {l l' p x : List UInt8} {i it : Int} (hi : itemM lit (p ++ 32 :: x) (rpR n it f u z l) = some (i, rpR n it f' u' z' l', 32 :: x)) (hr : ¬ i ≤ it) :
    fetM lit (k + 1) (p ++ 32 :: x) (rpR n it f u z l) = fetM lit k x (rpR n (bits BinOp.or IntKind.i64 it i) f' u' z' l') := by
  rw [fetM, hi]
  simp only []
  rw [show (rpR n it f u z l).items = it from rfl, if_neg hr, if_neg (by simp [List.isPrefixOf])]
  rfl
theorem fet_done {lit : List UInt8 → Option (List UInt8 × Nat)} (hlit : ∀ b post : List UInt8, b.length ≤ 65536 → lit (literalL b ++ post) = some (b, (literalL b).length)) (n f u z : Nat) (l : List UInt8) (hf : f ≤ 31) (hu : u ≤ 4294967295) (hz : z ≤ 4294967295) (hl : l.length ≤ 65536)
    (b1 b2 b4 b16 : Bool) (hne : (b1 || b2 || b4 || b16) = true) (x : List UInt8) :
    fetM lit 5 (spL (partsB b1 b2 b4 b16 f u z l) ++ 41 :: (13 :: 10 :: x)) (rpR n 0 0 0 0 []) = rpR n (itemsB b1 b2 b4 b16) (if b1 = true then f else 0) (if b2 = true then u else 0) (if b4 = true then z else 0) (if b16 = true then l else []) := by
  have F := fun (c : UInt8) y it a b d e => (item_f (lit := lit) f hf (c :: y) (rpR n it a b d e) : (_ : Option (Int × RI × List UInt8)) = some (1, rpR n it f b d e, c :: y))
  have U := fun (c : UInt8) (hc : EndC c) y it a b d e => (item_u (lit := lit) u hu hc y (rpR n it a b d e) : (_ : Option (Int × RI × List UInt8)) = some (2, rpR n it a u d e, c :: y))
  have Z := fun (c : UInt8) (hc : EndC c) y it a b d e => (item_z (lit := lit) z hz hc y (rpR n it a b d e) : (_ : Option (Int × RI × List UInt8)) = some (4, rpR n it a b z e, c :: y))
  have B := fun (c : UInt8) y it a b d e => (item_b hlit l hl (c :: y) (rpR n it a b d e) : (_ : Option (Int × RI × List UInt8)) = some (16, rpR n it a b d l, c :: y))
  have e32 : EndC 32 := .inl rfl
  have e41 : EndC 41 := .inr rfl
  unfold partsB
  generalize [70, 76, 65, 71, 83, 32] ++ listL f = pf at *
  generalize [85, 73, 68, 32] ++ decDigits u = pu at *
  generalize [82, 70, 67, 56, 50, 50, 46, 83, 73, 90, 69, 32] ++ decDigits z = pz at *
  generalize [66, 79, 68, 89, 91, 93, 32] ++ literalL l = pb at *
  cases b1 <;> cases b2 <;> cases b4 <;> cases b16
  case false.false.false.false => cases hne
  all_goals
    simp only [if_true, if_false, Bool.false_eq_true, List.nil_append, List.append_nil, List.singleton_append]
    repeat (first | rw [spL_cons, List.append_assoc, List.cons_append] | rw [spL_one])
    repeat
      first
        | rw [fet_more (F _ _ _ _ _ _ _) ?_]
        | rw [fet_more (U _ e32 _ _ _ _ _ _) ?_]
        | rw [fet_more (Z _ e32 _ _ _ _ _ _) ?_]
        | rw [fet_one (F _ _ _ _ _ _ _) ?_]
        | rw [fet_one (U _ e41 _ _ _ _ _ _) ?_]
        | rw [fet_one (Z _ e41 _ _ _ _ _ _) ?_]
        | rw [fet_one (B _ _ _ _ _ _ _) ?_]
    · unfold rpR
      simp only [RI.mk.injEq, and_true, true_and]
      decide +kernel
    all_goals decide +kernel
end Go.Proofs.YtpoejnajnaolpaaGreatDoor
