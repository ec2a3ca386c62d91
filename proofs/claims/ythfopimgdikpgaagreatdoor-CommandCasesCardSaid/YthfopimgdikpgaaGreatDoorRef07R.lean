/- The reference of layer 7: the memory of body. -/
import Derived.Test.YthfopimgdikpgaaGreatDoorRef07Q
namespace Go.Proofs.YthfopimgdikpgaaGreatDoor
open Go.RowKit

/-- The memory of 'body' between its statements: c in the second new block, the result in the first. -/
structure BW (w W : World) (a0 a1 a2 a3 a4 a5 a6 a7 a8 : Value) : Prop where
  hx : W.heap[w.heap.size + 1]? = some (.cells #[a0, a1, a2, a3, a4, a5, a6, a7, a8] 27 (0, 0))
  hr : W.heap[w.heap.size]? = some (.cells #[.string ⟨#[]⟩, .int .i64 0, .string ⟨#[]⟩, .slice none 0 0, .int .i64 0, .int .i64 0, .bool false, .int .u8 0, .slice none 0 0] 27 (0, 0))
  hb : Below w.heap.size w W
  hs : w.heap.size + 1 + 1 ≤ W.heap.size
theorem BW.below {w W W' : World} {a0 a1 a2 a3 a4 a5 a6 a7 a8 : Value} (h : BW w W a0 a1 a2 a3 a4 a5 a6 a7 a8) (hb : Below W.heap.size W W') : BW w W' a0 a1 a2 a3 a4 a5 a6 a7 a8 :=
  ⟨(hb.block _ (by have := h.hs; omega)).trans h.hx, (hb.block _ (by have := h.hs; omega)).trans h.hr, h.hb.trans (hb.mono h.hb.size), Nat.le_trans h.hs hb.size⟩
theorem BW.set1 {w W : World} {a0 a1 a2 a3 a4 a5 a6 a7 a8 : Value} (h : BW w W a0 a1 a2 a3 a4 a5 a6 a7 a8) (v : Value) : BW w (W.setCell ⟨w.heap.size + 1, 1, none⟩ v) a0 v a2 a3 a4 a5 a6 a7 a8 :=
  have hg := grown_set (World.grownBy.refl W (some (w.heap.size + 1))) 1 v
  ⟨Joins.block_setCell (i := 1) h.hx v, (hg.block _ (by have := h.hs; omega) (by simp)).trans h.hr, h.hb.grown hg h.hb.size (fun j hj => by cases hj; exact Nat.le_succ _), Nat.le_trans h.hs hg.size⟩
theorem BW.set2 {w W : World} {a0 a1 a2 a3 a4 a5 a6 a7 a8 : Value} (h : BW w W a0 a1 a2 a3 a4 a5 a6 a7 a8) (v : Value) : BW w (W.setCell ⟨w.heap.size + 1, 2, none⟩ v) a0 a1 v a3 a4 a5 a6 a7 a8 :=
  have hg := grown_set (World.grownBy.refl W (some (w.heap.size + 1))) 2 v
  ⟨Joins.block_setCell (i := 2) h.hx v, (hg.block _ (by have := h.hs; omega) (by simp)).trans h.hr, h.hb.grown hg h.hb.size (fun j hj => by cases hj; exact Nat.le_succ _), Nat.le_trans h.hs hg.size⟩
theorem BW.set3 {w W : World} {a0 a1 a2 a3 a4 a5 a6 a7 a8 : Value} (h : BW w W a0 a1 a2 a3 a4 a5 a6 a7 a8) (v : Value) : BW w (W.setCell ⟨w.heap.size + 1, 3, none⟩ v) a0 a1 a2 v a4 a5 a6 a7 a8 :=
  have hg := grown_set (World.grownBy.refl W (some (w.heap.size + 1))) 3 v
  ⟨Joins.block_setCell (i := 3) h.hx v, (hg.block _ (by have := h.hs; omega) (by simp)).trans h.hr, h.hb.grown hg h.hb.size (fun j hj => by cases hj; exact Nat.le_succ _), Nat.le_trans h.hs hg.size⟩
theorem BW.set4 {w W : World} {a0 a1 a2 a3 a4 a5 a6 a7 a8 : Value} (h : BW w W a0 a1 a2 a3 a4 a5 a6 a7 a8) (v : Value) : BW w (W.setCell ⟨w.heap.size + 1, 4, none⟩ v) a0 a1 a2 a3 v a5 a6 a7 a8 :=
  have hg := grown_set (World.grownBy.refl W (some (w.heap.size + 1))) 4 v
  ⟨Joins.block_setCell (i := 4) h.hx v, (hg.block _ (by have := h.hs; omega) (by simp)).trans h.hr, h.hb.grown hg h.hb.size (fun j hj => by cases hj; exact Nat.le_succ _), Nat.le_trans h.hs hg.size⟩
theorem BW.set5 {w W : World} {a0 a1 a2 a3 a4 a5 a6 a7 a8 : Value} (h : BW w W a0 a1 a2 a3 a4 a5 a6 a7 a8) (v : Value) : BW w (W.setCell ⟨w.heap.size + 1, 5, none⟩ v) a0 a1 a2 a3 a4 v a6 a7 a8 :=
  have hg := grown_set (World.grownBy.refl W (some (w.heap.size + 1))) 5 v
  ⟨Joins.block_setCell (i := 5) h.hx v, (hg.block _ (by have := h.hs; omega) (by simp)).trans h.hr, h.hb.grown hg h.hb.size (fun j hj => by cases hj; exact Nat.le_succ _), Nat.le_trans h.hs hg.size⟩
theorem BW.set6 {w W : World} {a0 a1 a2 a3 a4 a5 a6 a7 a8 : Value} (h : BW w W a0 a1 a2 a3 a4 a5 a6 a7 a8) (v : Value) : BW w (W.setCell ⟨w.heap.size + 1, 6, none⟩ v) a0 a1 a2 a3 a4 a5 v a7 a8 :=
  have hg := grown_set (World.grownBy.refl W (some (w.heap.size + 1))) 6 v
  ⟨Joins.block_setCell (i := 6) h.hx v, (hg.block _ (by have := h.hs; omega) (by simp)).trans h.hr, h.hb.grown hg h.hb.size (fun j hj => by cases hj; exact Nat.le_succ _), Nat.le_trans h.hs hg.size⟩
theorem BW.set7 {w W : World} {a0 a1 a2 a3 a4 a5 a6 a7 a8 : Value} (h : BW w W a0 a1 a2 a3 a4 a5 a6 a7 a8) (v : Value) : BW w (W.setCell ⟨w.heap.size + 1, 7, none⟩ v) a0 a1 a2 a3 a4 a5 a6 v a8 :=
  have hg := grown_set (World.grownBy.refl W (some (w.heap.size + 1))) 7 v
  ⟨Joins.block_setCell (i := 7) h.hx v, (hg.block _ (by have := h.hs; omega) (by simp)).trans h.hr, h.hb.grown hg h.hb.size (fun j hj => by cases hj; exact Nat.le_succ _), Nat.le_trans h.hs hg.size⟩
theorem BW.start (w : World) (tag : List UInt8) : BW w ((w.alloc (.cells #[.string ⟨#[]⟩, .int .i64 0, .string ⟨#[]⟩, .slice none 0 0, .int .i64 0, .int .i64 0, .bool false, .int .u8 0, .slice none 0 0] 27)).alloc (.cells #[.string ⟨tag.toArray⟩, .int .i64 0, .string ⟨#[]⟩, .slice none 0 0, .int .i64 0, .int .i64 0, .bool false, .int .u8 0, .slice none 0 0] 27)) (.string ⟨tag.toArray⟩) (.int .i64 0) (.string ⟨#[]⟩) (.slice none 0 0) (.int .i64 0) (.int .i64 0) (.bool false) (.int .u8 0) (.slice none 0 0) := by
  have hx := heap_alloc_new (w.alloc (.cells #[.string ⟨#[]⟩, .int .i64 0, .string ⟨#[]⟩, .slice none 0 0, .int .i64 0, .int .i64 0, .bool false, .int .u8 0, .slice none 0 0] 27)) (.cells #[.string ⟨tag.toArray⟩, .int .i64 0, .string ⟨#[]⟩, .slice none 0 0, .int .i64 0, .int .i64 0, .bool false, .int .u8 0, .slice none 0 0] 27)
  rw [World.size_alloc] at hx
  exact ⟨hx, ((below_al (w.alloc (.cells #[.string ⟨#[]⟩, .int .i64 0, .string ⟨#[]⟩, .slice none 0 0, .int .i64 0, .int .i64 0, .bool false, .int .u8 0, .slice none 0 0] 27)) _).block w.heap.size (by simp)).trans (heap_alloc_new w _), below_next (below_al w _) (below_al _ _), by rw [World.size_alloc, World.size_alloc]; exact Nat.le_refl _⟩
theorem slAt_setx {α : Type} {enc : α → List Value} {k : Nat} {w W : World} {A : Option Addr} {l : List α} (h : SlAt enc k W A l) (hne : ∀ b off s, A = some ⟨b, off, s⟩ → w.heap.size + 2 ≤ b) (i : Nat) (v : Value) : SlAt enc k (W.setCell ⟨w.heap.size + 1, i, none⟩ v) A l :=
  slAt_past h (grown_set (World.grownBy.refl W (some (w.heap.size + 1))) i v) (fun b off s e => by have := hne b off s e; omega)
theorem BPost.sets {o : Option Cmd} {c : Cmd} {A : Option Addr} {cap : Nat} {w W W9 : World} (ho : o = some c) (hdat : c.data = []) (hd : SlAt encR 2 W A c.set) (hle : c.set.length ≤ cap) (hg : W.grownBy W9 (some w.heap.size)) (hne : ∀ b off s, A = some ⟨b, off, s⟩ → w.heap.size + 2 ≤ b) (hb : Below w.heap.size w W9) :
    BPost o w (.returned (.tuple #[.agg (cmdA c (.slice A c.set.length cap) (.slice none 0 0)), .bool true])) W9 :=
  ⟨_, true, rfl, Ag.cmd _ _ _ _ _ _ _, fun _ => ⟨c, _, _, rfl, Lib.hid ho, Lib.hid ⟨_, _, rfl, ⟨_, _, rfl, hle, slAt_past hd hg (fun b off s e => by have := hne b off s e; omega)⟩, none, 0, by rw [hdat]; rfl, by rw [hdat]; exact Nat.le_refl _, .inl hdat⟩,
    fun b off s n k e => (by injection e with e; have := hne b off s e; omega), fun b off s n k e => (by injection e with e; cases e)⟩, fun e => (by cases e), hb⟩

/-! bodyR by shapes. -/
theorem bodyR_no4 (tag : List UInt8) {t : Tok} {r : List Tok} (h : t.kind ≠ 4) : bodyR tag (t :: r) = none := by simp [bodyR, h]
theorem bodyR_zero (tag : List UInt8) {t : Tok} {r : List Tok} (h : kindL t.text = 0) : bodyR tag (t :: r) = none := by simp [bodyR, h]
theorem bodyR_low (tag : List UInt8) {t : Tok} {r : List Tok} (h4 : t.kind = 4) (h0 : kindL t.text ≠ 0) (h : kindL t.text ≤ 4) : bodyR tag (t :: r) = if r = [] then some { cmd0 tag with kind := kindL t.text } else none := by simp [bodyR, h4, h0, h]
theorem bodyR_short (tag : List UInt8) {t : Tok} {r : List Tok} (h : 4 < kindL t.text) (hn : (t :: r).length < 3) : bodyR tag (t :: r) = none := by
  have h5 : ¬ kindL t.text ≤ 4 := by omega
  rcases r with _ | ⟨s, _ | ⟨m, q⟩⟩
  · by_cases h4 : t.kind = 4 <;> simp [bodyR, h4, h5]
  · by_cases h4 : t.kind = 4 <;> simp [bodyR, h4, h5]
  · simp at hn; omega
theorem bodyR_nos (tag : List UInt8) {t s m : Tok} {q : List Tok} (h : 4 < kindL t.text) (hs : s.kind ≠ 1) : bodyR tag (t :: s :: m :: q) = none := by
  have h5 : ¬ kindL t.text ≤ 4 := by omega
  by_cases h4 : t.kind = 4 <;> simp [bodyR, h4, h5, hs]
theorem bodyR_mbox (tag : List UInt8) {t s m : Tok} {q : List Tok} (h4 : t.kind = 4) (h : 4 < kindL t.text) (h6 : kindL t.text ≤ 6) (hs : s.kind = 1) : bodyR tag (t :: s :: m :: q) =
    if mboxR m = false then none else if kindL t.text = 5 then (if q = [] then some { cmd0 tag with kind := kindL t.text, mbox := m.text } else none) else
      match q with
      | z :: d => if z.kind = 1 then appR { cmd0 tag with kind := kindL t.text, mbox := m.text } d else none
      | [] => none := by
  have h5 : ¬ kindL t.text ≤ 4 := by omega
  have h0 : ¬ kindL t.text = 0 := by omega
  rcases q with _ | ⟨z, d⟩ <;> simp only [bodyR, h4, h0, h5, h6, hs, ne_eq, not_true_eq_false, or_self, if_false, if_true]
theorem bodyR_set (tag : List UInt8) {t s m : Tok} {q : List Tok} (h4 : t.kind = 4) (h : 6 < kindL t.text) (hs : s.kind = 1) : bodyR tag (t :: s :: m :: q) =
    if m.kind ≠ 4 ∨ (parseP m.text).2 = false then none else
      match q with
      | z :: d => if z.kind = 1 ∧ d ≠ [] then (if kindL t.text = 7 then fetR { cmd0 tag with kind := kindL t.text, set := (parseP m.text).1 } d else stoR { cmd0 tag with kind := kindL t.text, set := (parseP m.text).1 } d) else none
      | [] => none := by
  have h5 : ¬ kindL t.text ≤ 4 := by omega
  have h6 : ¬ kindL t.text ≤ 6 := by omega
  have h0 : ¬ kindL t.text = 0 := by omega
  rcases q with _ | ⟨z, d⟩ <;> simp only [bodyR, h4, h0, h5, h6, hs, ne_eq, not_true_eq_false, or_self, if_false]
end Go.Proofs.YthfopimgdikpgaaGreatDoor
