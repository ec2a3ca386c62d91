/- What the reference of layer 10 guesses keeps to its bounds; how many items can follow. No walk. -/
import Derived.Test.YtpoejnajnaolpaaGreatDoorRpRun3
namespace Go.Proofs.YtpoejnajnaolpaaGreatDoor
open Go.RowKit
open Go.Lib hiding intOf

theorem dropl (l : List UInt8) (n : Nat) : (l.drop n).length ≤ l.length := by rw [List.length_drop]; omega
theorem numT_some {s t : List UInt8} {u : Nat} (h : numT s = some (u, t)) : u ≤ 4294967295 ∧ t.length ≤ s.length := by
  unfold numT at h
  rw [Option.map_eq_some_iff] at h
  obtain ⟨v, hv, e⟩ := h
  obtain ⟨rfl, rfl⟩ := Prod.mk.inj e
  exact ⟨(numOf_some hv).1, dropl _ _⟩
theorem flgT_some {s t : List UInt8} {f : Nat} (h : flgT s = some (f, t)) : f < 32 ∧ t.length ≤ s.length := by
  unfold flgT at h
  split at h
  · cases h
  · rw [Option.map_eq_some_iff] at h
    obtain ⟨v, hv, e⟩ := h
    obtain ⟨rfl, rfl⟩ := Prod.mk.inj e
    exact ⟨parse_lt hv, dropl _ _⟩
theorem lineA_len : ∀ (s x : List UInt8), lineA s = some x → x.length ≤ s.length
  | [], x, h => by cases h
  | c :: s, x, h => by
    rw [lineA] at h
    split at h
    · obtain rfl := Option.some.inj h
      simp
    · rw [Option.map_eq_some_iff] at h
      obtain ⟨y, hy, rfl⟩ := h
      have := lineA_len s y hy
      simpa using this
theorem lineT_len (s : List UInt8) : (lineT s).length ≤ s.length := by
  unfold lineT
  cases h : lineA s with
  | none => simp
  | some x => exact lineA_len s x h
theorem wordT_len (s : List UInt8) : (wordT s).1.length ≤ s.length ∧ (wordT s).2.length ≤ s.length := by
  unfold wordT
  exact ⟨(List.takeWhile_sublist _).length_le, Nat.le_trans (dropl _ _) (List.dropWhile_sublist _).length_le⟩
/-- The bounds of a FETCH under way. -/
structure FkB (N : Nat) (r : RI) : Prop where
  ok : RIok r
  tag : r.tag = []
  text : r.text = []
  body : r.body.length ≤ N
  items : 0 ≤ r.items ∧ r.items ≤ 31
theorem zero_fk (N : Nat) : FkB N rsZero := ⟨hi_ok (k := 0) (s := 0) (n := 0) (g := []) (x := []) (by omega) (by omega) (by omega), rfl, rfl, Nat.zero_le _, by show (0 : Int) ≤ 0 ∧ (0 : Int) ≤ 31; omega⟩
theorem rpR_fk (N : Nat) {x : Nat} (hx : x ≤ 4294967295) : FkB N (rpR x 0 0 0 0 []) := ⟨hi_ok (k := 4) (s := 0) (n := x) (g := []) (x := []) (by omega) (by omega) hx, rfl, rfl, Nat.zero_le _, by show (0 : Int) ≤ 0 ∧ (0 : Int) ≤ 31; omega⟩
theorem or_ge : ∀ (a : Fin 32) (j : Fin 4), (max (a.val : Int) ([1, 2, 4, 16][j.val]) ≤ bits BinOp.or IntKind.i64 (a.val : Int) ([1, 2, 4, 16][j.val])) ∧ bits BinOp.or IntKind.i64 (a.val : Int) ([1, 2, 4, 16][j.val]) ≤ 31 := by decide +kernel
theorem or_ge' {a i : Int} (ha : 0 ≤ a ∧ a ≤ 31) (hi : i = 1 ∨ i = 2 ∨ i = 4 ∨ i = 16) : a ≤ bits BinOp.or IntKind.i64 a i ∧ i ≤ bits BinOp.or IntKind.i64 a i ∧ bits BinOp.or IntKind.i64 a i ≤ 31 := by
  obtain ⟨m, rfl⟩ : ∃ m : Nat, a = m := ⟨a.toNat, by omega⟩
  have key := fun j => or_ge ⟨m, by omega⟩ j
  rcases hi with rfl | rfl | rfl | rfl
  · have := key 0
    dsimp only at this
    have e : [1, 2, 4, 16][((0 : Fin 4)).val] = (1 : Int) := rfl
    rw [e] at this
    exact ⟨by omega, by omega, this.2⟩
  · have := key 1
    dsimp only at this
    have e : [1, 2, 4, 16][((1 : Fin 4)).val] = (2 : Int) := rfl
    rw [e] at this
    exact ⟨by omega, by omega, this.2⟩
  · have := key 2
    dsimp only at this
    have e : [1, 2, 4, 16][((2 : Fin 4)).val] = (4 : Int) := rfl
    rw [e] at this
    exact ⟨by omega, by omega, this.2⟩
  · have := key 3
    dsimp only at this
    have e : [1, 2, 4, 16][((3 : Fin 4)).val] = (16 : Int) := rfl
    rw [e] at this
    exact ⟨by omega, by omega, this.2⟩
theorem item_fk {N : Nat} {s t : List UInt8} {r q : RI} {i : Int} (hs : s.length ≤ N) (hr : FkB N r) (h : itemM litO s r = some (i, q, t)) : (i = 1 ∨ i = 2 ∨ i = 4 ∨ i = 16) ∧ t.length ≤ s.length ∧ q.items = r.items ∧ FkB N q := by
  obtain ⟨ok, ht, hx, hb, hi⟩ := hr
  unfold itemM at h
  split at h
  · rw [Option.map_eq_some_iff] at h
    obtain ⟨⟨f, t'⟩, hv, e⟩ := h
    simp only [Prod.mk.injEq] at e
    obtain ⟨rfl, rfl, rfl⟩ := e
    obtain ⟨h1, h2⟩ := flgT_some hv
    exact ⟨.inl rfl, Nat.le_trans h2 (dropl _ _), rfl, ⟨⟨ok.kind, ok.n, ok.status, ok.items, by show f ≤ 255; omega, ok.uid, ok.size⟩, ht, hx, hb, hi⟩⟩
  split at h
  · rw [Option.map_eq_some_iff] at h
    obtain ⟨⟨f, t'⟩, hv, e⟩ := h
    simp only [Prod.mk.injEq] at e
    obtain ⟨rfl, rfl, rfl⟩ := e
    obtain ⟨h1, h2⟩ := numT_some hv
    exact ⟨.inr (.inl rfl), Nat.le_trans h2 (dropl _ _), rfl, ⟨⟨ok.kind, ok.n, ok.status, ok.items, ok.flags, h1, ok.size⟩, ht, hx, hb, hi⟩⟩
  split at h
  · rw [Option.map_eq_some_iff] at h
    obtain ⟨⟨f, t'⟩, hv, e⟩ := h
    simp only [Prod.mk.injEq] at e
    obtain ⟨rfl, rfl, rfl⟩ := e
    obtain ⟨h1, h2⟩ := numT_some hv
    exact ⟨.inr (.inr (.inl rfl)), Nat.le_trans h2 (dropl _ _), rfl, ⟨⟨ok.kind, ok.n, ok.status, ok.items, ok.flags, ok.uid, h1⟩, ht, hx, hb, hi⟩⟩
  split at h
  · rw [Option.map_eq_some_iff] at h
    obtain ⟨v, hv, e⟩ := h
    simp only [Prod.mk.injEq] at e
    obtain ⟨rfl, rfl, rfl⟩ := e
    have h1 := (lit_some hv).1
    have h2 : v.1.length ≤ N := by
      have h3 := congrArg List.length h1
      unfold literalL at h3
      simp only [List.length_append] at h3
      have := dropl s 7
      omega
    exact ⟨.inr (.inr (.inr rfl)), Nat.le_trans (dropl _ _) (dropl _ _), rfl, ⟨⟨ok.kind, ok.n, ok.status, ok.items, ok.flags, ok.uid, ok.size⟩, ht, hx, h2, hi⟩⟩
  · cases h
theorem fet_fk {N : Nat} : ∀ (g : Nat) {s : List UInt8} {r : RI}, s.length ≤ N → FkB N r → FkB N (fetM litO g s r)
  | 0, _, _, _, _ => zero_fk N
  | g + 1, s, r, hs, hr => by
    rw [fetM]
    split
    · exact zero_fk N
    · rename_i i q t hq
      obtain ⟨hi, ht, hit, hq'⟩ := item_fk hs hr hq
      have hor := or_ge' hr.items hi
      have hset : FkB N { q with items := bits BinOp.or IntKind.i64 r.items i } := ⟨⟨hq'.ok.kind, hq'.ok.n, hq'.ok.status, by show -9223372036854775808 ≤ bits BinOp.or IntKind.i64 r.items i ∧ bits BinOp.or IntKind.i64 r.items i ≤ 9223372036854775807; have := hr.items; omega, hq'.ok.flags, hq'.ok.uid, hq'.ok.size⟩, hq'.tag, hq'.text, hq'.body, by show 0 ≤ bits BinOp.or IntKind.i64 r.items i ∧ bits BinOp.or IntKind.i64 r.items i ≤ 31; have := hr.items; omega⟩
      split
      · exact zero_fk N
      · split
        · exact hset
        · split
          · rename_i t2
            refine fet_fk g ?_ hset
            simp only [List.length_cons] at ht
            omega
          · exact zero_fk N
/-- THE GUESS KEEPS TO ITS BOUNDS. -/
theorem guess_fk {N : Nat} {s : List UInt8} (hs : s.length ≤ N) : RIok (guessM litO s) ∧ (guessM litO s).tag.length ≤ N ∧ (guessM litO s).text.length ≤ N ∧ (guessM litO s).body.length ≤ N := by
  have w1 := wordT_len s
  have w2 := wordT_len (wordT s).2
  have l1 := lineT_len (wordT s).2
  have l2 := lineT_len (wordT (wordT s).2).2
  have txt : ∀ (k : Int) (g x : List UInt8) (st : Int), 0 ≤ k ∧ k ≤ 10 → 0 ≤ st ∧ st ≤ 2 → g.length ≤ N → x.length ≤ N → RIok ⟨k, 0, g, st, x, 0, 0, 0, 0, []⟩ ∧ g.length ≤ N ∧ x.length ≤ N ∧ ([] : List UInt8).length ≤ N := fun k g x st hk hst hg hx => ⟨hi_ok hk hst (by omega), hg, hx, Nat.zero_le _⟩
  have z : RIok rsZero ∧ rsZero.tag.length ≤ N ∧ rsZero.text.length ≤ N ∧ rsZero.body.length ≤ N := ⟨(zero_fk N).ok, Nat.zero_le _, Nat.zero_le _, Nat.zero_le _⟩
  unfold guessM
  split
  · exact txt 10 [] _ 0 (by omega) (by omega) (Nat.zero_le _) (by omega)
  split
  · split
    · exact txt 9 _ _ 0 (by omega) (by omega) (by omega) (by omega)
    split
    · exact txt 9 _ _ 1 (by omega) (by omega) (by omega) (by omega)
    split
    · exact txt 9 _ _ 2 (by omega) (by omega) (by omega) (by omega)
    · exact z
  split
  · exact txt 5 [] [] 0 (by omega) (by omega) (Nat.zero_le _) (Nat.zero_le _)
  split
  · exact txt 6 [] _ 0 (by omega) (by omega) (Nat.zero_le _) (by omega)
  split
  · exact txt 7 [] _ 0 (by omega) (by omega) (Nat.zero_le _) (by omega)
  split
  · exact txt 8 [] _ 0 (by omega) (by omega) (Nat.zero_le _) (by omega)
  split
  · exact z
  · rename_i x hx
    have hx9 := (numOf_some hx).1
    split
    · exact ⟨hi_ok (by omega) (by omega) hx9, Nat.zero_le _, Nat.zero_le _, Nat.zero_le _⟩
    split
    · exact ⟨hi_ok (by omega) (by omega) hx9, Nat.zero_le _, Nat.zero_le _, Nat.zero_le _⟩
    split
    · exact ⟨hi_ok (by omega) (by omega) hx9, Nat.zero_le _, Nat.zero_le _, Nat.zero_le _⟩
    split
    · have h := fet_fk (N := N) 5 (s := (wordT (wordT s).2).2.drop 7) (Nat.le_trans (dropl _ _) (by omega)) (rpR_fk N hx9)
      exact ⟨h.ok, by rw [h.tag]; exact Nat.zero_le _, by rw [h.text]; exact Nat.zero_le _, h.body⟩
    · exact z

/-- How many items are greater. -/
def cntI (it : Int) : Nat := (if it < 1 then 1 else 0) + (if it < 2 then 1 else 0) + (if it < 4 then 1 else 0) + (if it < 16 then 1 else 0)
theorem cntI_lt {it i it' : Int} (hi : i = 1 ∨ i = 2 ∨ i = 4 ∨ i = 16) (h1 : it < i) (h2 : i ≤ it') : cntI it' < cntI it := by
  unfold cntI
  rcases hi with rfl | rfl | rfl | rfl
  all_goals
    repeat' split
    all_goals omega
end Go.Proofs.YtpoejnajnaolpaaGreatDoor
