/- The lock table where it lies: its block, its two maps, the rows of what the owners hold. No walk. -/
import Derived.Test.YtpfplniokjkcbaaLkM
import Derived.Test.YtpfplniokjkcbaaMapZ
import Derived.Test.YtpfplniokjkcbaaKeptO
import Derived.Laws.NewBlocks
import Derived.Lib.SmallJoins
namespace Go.Proofs.Ytpfplniokjkcbaa
open Go.RowKit Go.Maps

/-- Where a table lies: the map of the owners, the map of what they hold, each owner's row and its capacity. -/
structure LR where
  ob : Nat
  hb : Nat
  rb : Int → Nat
  cp : Int → Nat
/-- What the map of the owners holds. -/
def GO (L : List Int) (x : Int) : Option Value := if 0 ≤ ownL L x then some (.int .i64 (ownL L x)) else none
/-- An owner's row as a value. -/
def LR.val (R : LR) (L : List Int) (o : Int) : Value := if heldL L o = [] then .slice none 0 0 else .slice (some ⟨R.rb o, 0, none⟩) (heldL L o).length (R.cp o)
/-- What the map of what they hold holds. -/
def GH (R : LR) (L : List Int) (o : Int) : Option Value := if heldL L o = [] then none else some (R.val L o)
structure LkX (R : LR) (g : Nat) (S : Nat → Prop) (L : List Int) (q : Nat) (w : World) : Prop where
  len : L.length ≤ 65536
  lt : ∀ k, S k → k < w.heap.size
  sg : S g
  so : S R.ob
  sh : S R.hb
  sr : ∀ o, heldL L o ≠ [] → S (R.rb o)
  tb : w.heap[g]? = some (.cells #[.int .i64 (L.length : Int), .map (some R.ob), .map (some R.hb), .int .i64 (q : Int)] 67 (0, 0))
  go : g ≠ R.ob
  gh : g ≠ R.hb
  oh : R.ob ≠ R.hb
  rk : ∀ o, heldL L o ≠ [] → R.rb o ≠ g ∧ R.rb o ≠ R.ob ∧ R.rb o ≠ R.hb
  rr : ∀ o p, heldL L o ≠ [] → heldL L p ≠ [] → R.rb o = R.rb p → o = p
  row : ∀ o, w.ownsRow 0 3 1 (R.val L o) (heldL L o).length (flatL encK (heldL L o))
  mo : ∃ c, c ≤ q ∧ MapZ w R.ob c (GO L) c
  mh : ∃ c, c ≤ q ∧ MapZ w R.hb c (GH R L) c
/-- A row lies where its block lies. -/
theorem own_at {w w' : World} {base n m c sz : Nat} {T : TypeId} {A : Option Addr} {xs : List Value} (h : w.ownsRow base T sz (.slice A m c) n xs) (hb : ∀ a, A = some a → w'.heap[a.block]? = w.heap[a.block]?) : w'.ownsRow base T sz (.slice A m c) n xs := by
  refine ⟨h.1, h.2.imp id ?_⟩
  rintro ⟨k, cap, cur, h1, h2, h3, h4⟩
  have hA : A = some ⟨k, 0, none⟩ := by injection h1
  exact ⟨k, cap, cur, h1, h2, (hb _ hA).trans h3, h4⟩
section
variable {R : LR} {g q : Nat} {S S' T : Nat → Prop} {L : List Int} {w w' : World}
theorem LR.val_ob {o : Int} {b : Nat} (h : (R.val L o).ownBlock = some b) : heldL L o ≠ [] ∧ b = R.rb o := by
  unfold LR.val at h
  split at h
  · simp [Value.ownBlock] at h
  · next e => exact ⟨e, by simpa [Value.ownBlock] using h.symm⟩
theorem LR.val_any (R : LR) (L : List Int) (o : Int) : ∃ A c, R.val L o = .slice A (heldL L o).length c ∧ ∀ a, A = some a → heldL L o ≠ [] ∧ a.block = R.rb o := by
  unfold LR.val
  split
  · next e => exact ⟨none, 0, by rw [e]; rfl, fun a ha => by cases ha⟩
  · next e => exact ⟨_, _, rfl, fun a ha => by cases ha; exact ⟨e, rfl⟩⟩
theorem own_blk {o : Int} {n : Nat} {xs : List Value} (h : w.ownsRow 0 3 1 (R.val L o) n xs) (hb : heldL L o ≠ [] → w'.heap[R.rb o]? = w.heap[R.rb o]?) : w'.ownsRow 0 3 1 (R.val L o) n xs := by
  obtain ⟨A, c, e, hA⟩ := R.val_any L o
  rw [e] at h ⊢
  exact own_at h fun a ha => by rw [(hA a ha).2]; exact hb (hA a ha).1
theorem GH_getD (o : Int) : (GH R L o).getD (.slice none 0 0) = R.val L o := by
  unfold GH
  split
  · next e => unfold LR.val; rw [if_pos e]; rfl
  · rfl
theorem LkX.keep (h : LkX R g S L q w) (hs : w.heap.size ≤ w'.heap.size) (hb : ∀ k, S k → w'.heap[k]? = w.heap[k]?) : LkX R g S L q w' := by
  obtain ⟨c1, l1, m1⟩ := h.mo
  obtain ⟨c2, l2, m2⟩ := h.mh
  exact ⟨h.len, fun k hk => Nat.lt_of_lt_of_le (h.lt k hk) hs, h.sg, h.so, h.sh, h.sr, (hb _ h.sg).trans h.tb, h.go, h.gh, h.oh, h.rk, h.rr, fun o => own_blk (h.row o) fun e => hb _ (h.sr o e), ⟨c1, l1, m1.at_ (hb _ h.so)⟩, ⟨c2, l2, m2.at_ (hb _ h.sh)⟩⟩
theorem LkX.kept (h : LkX R g S L q w) (hk : KeptO T w w') (hS : ∀ k, S k → ¬ T k) : LkX R g S L q w' := h.keep hk.size fun k e => hk.block k (h.lt k e) (hS k e)
theorem LkX.below (h : LkX R g S L q w) (hb : Below w.heap.size w w') : LkX R g S L q w' := h.keep hb.size fun k e => hb.block k (h.lt k e)
theorem LkX.cells (h : LkX R g S L q w) : w.cell? ⟨g, 0, none⟩ = some (.int .i64 (L.length : Int)) ∧ w.cell? ⟨g, 1, none⟩ = some (.map (some R.ob)) ∧ w.cell? ⟨g, 2, none⟩ = some (.map (some R.hb)) ∧ w.cell? ⟨g, 3, none⟩ = some (.int .i64 (q : Int)) :=
  ⟨cell_of_row _ _ 0 _ _ _ h.tb, cell_of_row _ _ 1 _ _ _ h.tb, cell_of_row _ _ 2 _ _ _ h.tb, cell_of_row _ _ 3 _ _ _ h.tb⟩
theorem LkX.fz (h : LkX R g S L q w) (o : Nat) : w.frozen? ⟨g, o, none⟩ = false := Joins.unfrozen_of_block h.tb o
/-- What an owner holds, as a slice. -/
theorem LkX.sl (h : LkX R g S L q w) (o : Int) : ∃ A c, R.val L o = .slice A (heldL L o).length c ∧ SlAt encK 1 w A (heldL L o) ∧ (heldL L o).length ≤ c := by
  obtain ⟨A, c, e, _⟩ := R.val_any L o
  have := h.row o
  rw [e] at this
  exact ⟨A, c, e, SlAt.of_own encK_len this, own_cap this⟩
/-- The table in block g, its blocks S: L its locks' owners (-1: free), q acquisitions. -/
def LkT (g : Nat) (S : Nat → Prop) (L : List Int) (q : Nat) (w : World) : Prop := ∃ R, LkX R g S L q w
/-- What behind a call is known of the table's blocks. -/
def More (S S' : Nat → Prop) (w : World) : Prop := (∀ k, S k → S' k) ∧ ∀ k, S' k → S k ∨ w.heap.size ≤ k
theorem More.refl (S : Nat → Prop) (w : World) : More S S w := ⟨fun _ => id, fun _ => .inl⟩
theorem LkT.lt (h : LkT g S L q w) : ∀ k, S k → k < w.heap.size := by
  obtain ⟨R, h⟩ := h
  exact h.lt
theorem LkT.kept (h : LkT g S L q w) (hk : KeptO S' w w') (hS : ∀ k, S k → ¬ S' k) : LkT g S L q w' := by
  obtain ⟨R, h⟩ := h
  exact ⟨R, h.kept hk hS⟩
/-- All locks free: where a new table lies. -/
theorem LkX.start {n ob hb : Nat} (hn : n ≤ 65536) (h1 : g ≠ ob) (h2 : g ≠ hb) (h3 : ob ≠ hb) (hM1 : MapZ w ob 0 (fun _ => none) 0) (hM2 : MapZ w hb 0 (fun _ => none) 0)
    (ht : w.heap[g]? = some (.cells #[.int .i64 (n : Int), .map (some ob), .map (some hb), .int .i64 0] 67 (0, 0))) : LkX ⟨ob, hb, fun _ => 0, fun _ => 0⟩ g (fun k => k = g ∨ k = ob ∨ k = hb) (List.replicate n (-1)) 0 w := by
  have hH : ∀ o, heldL (List.replicate n (-1)) o = [] := heldL_rep n
  refine ⟨by rw [List.length_replicate]; exact hn, ?_, .inl rfl, .inr (.inl rfl), .inr (.inr rfl), fun o h => absurd (hH o) h, by rw [List.length_replicate]; exact ht, h1, h2, h3, fun o h => absurd (hH o) h, fun o p h => absurd (hH o) h, fun o => ?_, ⟨0, Nat.le_refl _, hM1.congr fun u _ => ?_⟩, ⟨0, Nat.le_refl _, hM2.congr fun u _ => ?_⟩⟩
  · rintro k (rfl | rfl | rfl)
    · exact (Array.getElem?_eq_some_iff.1 ht).1
    · exact hM1.lt
    · exact hM2.lt
  · unfold LR.val
    rw [if_pos (hH o), hH o]
    exact World.ownsRow_nil _ _ _ _
  · unfold GO
    rw [if_neg (by have := ownL_rep n u; omega)]
  · unfold GH
    rw [if_pos (hH u)]
end
end Go.Proofs.Ytpfplniokjkcbaa
