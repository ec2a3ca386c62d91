/- Lists of frames in memory. Plain facts, no walk. -/
import Derived.Test.YtldlghfjinpnkaaDoorNext2
import Derived.Test.YtldlghfjinpnkaaDoorAppend
namespace Go.Proofs.YtldlghfjinpnkaaDoor
open Go.RowKit

/-- A frame's two cells. -/
def enc2 (p : Int × Value) : List Value := [.int .i64 p.1, p.2]
theorem enc2_len (p : Int × Value) : (enc2 p).length = 2 := rfl

/-- The values vs read as the frames fs; their data lie in rows that fit P. -/
inductive FrsAt (P : Nat → Prop) (w : World) : List (Int × Value) → List Fr → Prop
  | nil : FrsAt P w [] []
  | cons {f : Fr} {v : Value} {vs : List (Int × Value)} {fs : List Fr} : FrD P w v f.data → FrsAt P w vs fs → FrsAt P w (((f.kind : Int), v) :: vs) (f :: fs)
section
variable {P Q : Nat → Prop} {w w' : World} {vs us : List (Int × Value)} {fs gs : List Fr}
theorem FrsAt.len (h : FrsAt P w vs fs) : vs.length = fs.length := by
  induction h with
  | nil => rfl
  | cons _ _ ih => simp [ih]
theorem FrsAt.append (h : FrsAt P w vs fs) (h2 : FrsAt P w us gs) : FrsAt P w (vs ++ us) (fs ++ gs) := by
  induction h with
  | nil => exact h2
  | cons hd _ ih => exact .cons hd ih
theorem FrsAt.one {f : Fr} {v : Value} (h : FrD P w v f.data) : FrsAt P w [((f.kind : Int), v)] [f] := .cons h .nil
theorem FrsAt.map (h : FrsAt P w vs fs) (hd : ∀ v l, FrD P w v l → FrD Q w' v l) : FrsAt Q w' vs fs := by
  induction h with
  | nil => exact .nil
  | cons h1 _ ih => exact .cons (hd _ _ h1) ih
theorem FrsAt.at (h : FrsAt P w vs fs) (i : Nat) (hi : i < vs.length) (hi2 : i < fs.length) : vs[i].1 = (fs[i].kind : Int) ∧ FrD P w vs[i].2 fs[i].data := by
  induction h generalizing i with
  | nil => simp at hi
  | cons hd _ ih =>
    cases i with
    | zero => exact ⟨rfl, hd⟩
    | succ i => exact ih i (by simpa using hi) (by simpa using hi2)
theorem flatL_cons2 (p : Int × Value) (l : List (Int × Value)) : flatL enc2 (p :: l) = enc2 p ++ flatL enc2 l := rfl
theorem one_flat2 (h : FrsAt P w vs fs) : ∀ u ∈ flatL enc2 vs, u.oneCell' = true := by
  induction h with
  | nil => intro u hu; simp [flatL] at hu
  | cons hd _ ih =>
    intro u hu
    obtain ⟨A, c, g, rfl, _, _⟩ := hd
    rw [flatL_cons2] at hu
    rcases List.mem_append.1 hu with h | h
    · simp [enc2] at h
      rcases h with rfl | rfl <;> rfl
    · exact ih u h
theorem BRow.keeps {g c : Nat} {A : Option Addr} {l : List UInt8} (h : BRow g w A c l) (hk : KeepsT 5 w w') : BRow g w' A c l := by
  rcases h.lies with ⟨h0, h1⟩ | ⟨off, cs, hA, hh, hs, hc⟩
  · exact ⟨h.le, h.cap, .inl ⟨h0, h1⟩⟩
  · exact h.kept fun _ => (hk.2 _ _ _ hh).trans hh.symm
theorem FrD.keeps {v : Value} {l : List UInt8} (h : FrD P w v l) (hk : KeepsT 5 w w') : FrD P w' v l := by
  obtain ⟨A, c, g, h1, h2, h3⟩ := h
  exact ⟨A, c, g, h1, h2.keeps hk, h3⟩
theorem FrD.imp {v : Value} {l : List UInt8} (h : FrD P w v l) (hP : ∀ x, P x → Q x) : FrD Q w v l := by
  obtain ⟨A, c, g, h1, h2, h3⟩ := h
  exact ⟨A, c, g, h1, h2, hP _ h3⟩
theorem FrsAt.keeps (h : FrsAt P w vs fs) (hk : KeepsT 5 w w') : FrsAt P w' vs fs := h.map fun _ _ hd => hd.keeps hk
theorem FrsAt.imp (h : FrsAt P w vs fs) (hP : ∀ x, P x → Q x) : FrsAt Q w vs fs := h.map fun _ _ hd => hd.imp hP
theorem keeps_below {T : TypeId} (h : Below w.heap.size w w') : KeepsT T w w' := ⟨h.size, fun i _ _ hi => (h.block i (Array.getElem?_eq_some_iff.1 hi).1).trans hi⟩
theorem keeps_row {T e : TypeId} {base size n : Nat} {v : Value} {xs : List Value} (hrow : w.ownsRow base e size v n xs) (hT : e ≠ T) (hg : w.grownBy w' v.ownBlock) : KeepsT T w w' := KeepsT.own_app hrow hT hg
theorem keeps_grown {T U : TypeId} {r : Nat} {cs : Array Value} {fr : Nat × Nat} (hg : w.grownBy w' (some r)) (hr : w.heap[r]? = some (.cells cs U fr)) (hT : U ≠ T) : KeepsT T w w' :=
  KeepsT.grown hg fun r' e cs' fr' h => by
    obtain rfl := Option.some.inj e
    rw [hr] at h
    simp only [Option.some.injEq, Obj.cells.injEq] at h
    exact hT h.2.1
/-- The one frame that is appended lies in a block of its own. -/
theorem slAt_one2 (w : World) (x : Int) (v : Value) (T : TypeId) : SlAt enc2 2 (w.alloc (.cells #[.int .i64 x, v] T)) (some ⟨w.heap.size, 0, none⟩) [(x, v)] := by
  refine .inr ⟨w.heap.size, 0, rfl, by simp, fun j y hj i u hi => ?_⟩
  have hj0 : j = 0 := by
    have := (List.getElem?_eq_some_iff.1 hj).1
    simpa using this
  subst hj0
  obtain rfl : (x, v) = y := by simpa using hj
  rw [Joins.cell_alloc_mark_at w _ _ _ _ _ rfl]
  match i, hi with
  | 0, hi => simpa [enc2] using hi
  | 1, hi => simpa [enc2] using hi
end
end Go.Proofs.YtldlghfjinpnkaaDoor
