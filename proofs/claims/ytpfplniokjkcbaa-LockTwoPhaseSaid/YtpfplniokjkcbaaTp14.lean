/- Owners that acquire their locks in ascending order, each as soon as it can: all get them. No walk. -/
import Derived.Test.YtpfplniokjkcbaaL14O
namespace Go.Proofs.Ytpfplniokjkcbaa
open Go.RowKit

/-- The owners of the locks; what each owner still wants; acquisitions. -/
structure TP where
  L : List Int
  ls : List (List Nat)
  q : Nat
def sumLen (ls : List (List Nat)) : Nat := (ls.map List.length).sum
def asI (l : List Nat) : List Int := l.map fun (y : Nat) => (y : Int)
/-- A turn. -/
def tstep (s : TP) (i : Nat) : TP :=
  match s.ls.getD i [] with
  | [] => ⟨relL s.L (i : Int), s.ls, s.q⟩
  | y :: ys => if blkL s.L (i : Int) (asI (y :: ys)) = true then s else ⟨(acqL s.L (i : Int) (y : Int)).1, s.ls.set i ys, s.q + 1⟩
structure TInv (n tot : Nat) (s : TP) : Prop where
  len : s.ls.length = n
  l12 : s.L.length = 12
  asc : ∀ (i : Nat) (l : List Nat), s.ls[i]? = some l → l.Pairwise (· < ·) ∧ ∀ y ∈ l, y < 12
  own : ∀ (k : Nat) (x : Int), s.L[k]? = some x → 0 ≤ x → ∃ (i : Nat) (l : List Nat), x = (i : Int) ∧ s.ls[i]? = some l ∧ ∀ y ∈ l, k < y
  cnt : s.q + sumLen s.ls = tot
theorem sumLen_set {ls : List (List Nat)} {i y : Nat} {ys : List Nat} (h : ls[i]? = some (y :: ys)) : sumLen ls = sumLen (ls.set i ys) + 1 := by
  induction ls generalizing i with
  | nil => simp at h
  | cons a ls ih =>
    rcases i with _ | i
    · obtain rfl := Option.some.inj h
      simp [sumLen]
      omega
    · have := ih (i := i) (by simpa using h)
      simp [sumLen] at this ⊢
      omega
theorem sumLen_zero : ∀ {ls : List (List Nat)}, (∀ l ∈ ls, l = []) → sumLen ls = 0
  | [], _ => rfl
  | a :: ls, h => by
    have h1 := sumLen_zero fun l hl => h l (List.mem_cons_of_mem _ hl)
    have h2 := h a (by simp)
    subst h2
    simp [sumLen] at h1 ⊢
    exact h1
theorem ownL_some {L : List Int} {k : Nat} {x : Int} (h : L[k]? = some x) : ownL L k = x := by
  obtain ⟨h1, h2⟩ := List.getElem?_eq_some_iff.1 h
  rw [ownL_at h1, h2]
theorem ownL_get {L : List Int} {k : Nat} (h : 0 ≤ ownL L (k : Int)) : L[k]? = some (ownL L (k : Int)) := by
  rcases Nat.lt_or_ge k L.length with hk | hk
  · rw [ownL_at hk, List.getElem?_eq_getElem hk]
  · rw [ownL_out (.inr (by omega))] at h
    omega
section
variable {n tot : Nat} {s : TP} {i y : Nat} {ys : List Nat}
theorem TInv.not_own (h : TInv n tot s) (hl : s.ls[i]? = some (y :: ys)) : ownL s.L (y : Int) ≠ (i : Int) := by
  intro e
  obtain ⟨j, l, e1, e2, e3⟩ := h.own y _ (ownL_get (by omega)) (by omega)
  have : j = i := by omega
  subst this
  rw [hl] at e2
  obtain rfl := Option.some.inj e2
  have := e3 y (by simp)
  omega
theorem TInv.blk (h : TInv n tot s) (hl : s.ls[i]? = some (y :: ys)) : blkL s.L (i : Int) (asI (y :: ys)) = decide (0 ≤ ownL s.L (y : Int)) := by
  simp only [asI, List.map_cons, blkL]
  rw [if_pos (.inl (h.not_own hl))]
theorem TInv.acq (h : TInv n tot s) (hl : s.ls[i]? = some (y :: ys)) (hb : ownL s.L (y : Int) < 0) : acqL s.L (i : Int) (y : Int) = (s.L.set y (i : Int), 0) := by
  have hy := (h.asc i _ hl).2 y (by simp)
  have := h.l12
  unfold acqL
  rw [if_neg (by omega), if_neg (h.not_own hl), if_neg, if_neg (by omega), Int.toNat_natCast]
  rintro ⟨k, hk, hky⟩
  obtain ⟨_, h4, h5⟩ := mem_heldL.1 hk
  obtain ⟨j, l, e1, e2, e3⟩ := h.own k _ (List.getElem?_eq_getElem h4) (by omega)
  have : j = i := by omega
  subst this
  rw [hl] at e2
  obtain rfl := Option.some.inj e2
  have := e3 y (by simp)
  omega
theorem tstep_nil (hl : s.ls[i]? = some []) : tstep s i = ⟨relL s.L (i : Int), s.ls, s.q⟩ := by
  unfold tstep
  rw [List.getD_eq_getElem?_getD, hl]
  rfl
theorem TInv.step_wait (h : TInv n tot s) (hl : s.ls[i]? = some (y :: ys)) (hb : 0 ≤ ownL s.L (y : Int)) : tstep s i = s := by
  unfold tstep
  rw [List.getD_eq_getElem?_getD, hl]
  show (if blkL s.L (i : Int) (asI (y :: ys)) = true then s else _) = s
  rw [if_pos (by rw [h.blk hl]; exact decide_eq_true hb)]
theorem TInv.step_go (h : TInv n tot s) (hl : s.ls[i]? = some (y :: ys)) (hb : ownL s.L (y : Int) < 0) : tstep s i = ⟨s.L.set y (i : Int), s.ls.set i ys, s.q + 1⟩ := by
  unfold tstep
  rw [List.getD_eq_getElem?_getD, hl]
  show (if blkL s.L (i : Int) (asI (y :: ys)) = true then s else _) = _
  rw [if_neg (by rw [h.blk hl]; simpa using hb), h.acq hl hb]
theorem relL_get {L : List Int} {o x : Int} {k : Nat} (h : (relL L o)[k]? = some x) (hx : 0 ≤ x) : L[k]? = some x := by
  unfold relL at h
  rw [List.getElem?_map] at h
  cases e : L[k]? with
  | none => rw [e] at h; simp at h
  | some z =>
    rw [e] at h
    have h2 := Option.some.inj h
    simp only at h2
    split at h2
    · omega
    · rw [h2]
theorem TInv.step (h : TInv n tot s) (hi : i < n) : TInv n tot (tstep s i) := by
  have hi' : i < s.ls.length := by rw [h.len]; exact hi
  cases hl : s.ls[i] with
  | nil =>
    rw [tstep_nil (by rw [List.getElem?_eq_getElem hi', hl])]
    exact ⟨h.len, by show (relL s.L (i : Int)).length = 12; unfold relL; rw [List.length_map]; exact h.l12, h.asc, fun k x hx h0 => h.own k x (relL_get hx h0) h0, h.cnt⟩
  | cons y ys =>
    have hl' : s.ls[i]? = some (y :: ys) := by rw [List.getElem?_eq_getElem hi', hl]
    by_cases hb : 0 ≤ ownL s.L (y : Int)
    · rw [h.step_wait hl' hb]; exact h
    · have hb' : ownL s.L (y : Int) < 0 := by omega
      obtain ⟨ha1, ha2⟩ := h.asc i _ hl'
      have hp := List.pairwise_cons.1 ha1
      rw [h.step_go hl' hb']
      refine ⟨by show (s.ls.set i ys).length = n; rw [List.length_set]; exact h.len, by show (s.L.set y (i : Int)).length = 12; rw [List.length_set]; exact h.l12, ?_, ?_, ?_⟩
      · intro j l hj
        change (s.ls.set i ys)[j]? = some l at hj
        rw [List.getElem?_set] at hj
        split at hj
        · obtain rfl := Option.some.inj hj
          exact ⟨hp.2, fun z hz => ha2 z (List.mem_cons_of_mem _ hz)⟩
        · exact h.asc j l hj
      · intro k x hx h0
        change (s.L.set y (i : Int))[k]? = some x at hx
        rw [List.getElem?_set] at hx
        have key : ∀ (j : Nat) (l : List Nat), s.ls[j]? = some l → (∀ z ∈ l, k < z) → ∃ l', (s.ls.set i ys)[j]? = some l' ∧ ∀ z ∈ l', k < z := by
          intro j l hj hz
          by_cases e : i = j
          · subst e
            rw [hl'] at hj
            obtain rfl := Option.some.inj hj
            exact ⟨ys, by rw [List.getElem?_set_self hi'], fun z h => hz z (List.mem_cons_of_mem _ h)⟩
          · exact ⟨l, by rw [List.getElem?_set_ne e]; exact hj, hz⟩
        split at hx
        · next e =>
          subst e
          split at hx
          · obtain rfl := Option.some.inj hx
            exact ⟨i, ys, rfl, by show (s.ls.set i ys)[i]? = some ys; rw [List.getElem?_set_self hi'], hp.1⟩
          · cases hx
        · obtain ⟨j, l, e1, e2, e3⟩ := h.own k x hx h0
          obtain ⟨l', e4, e5⟩ := key j l e2 e3
          exact ⟨j, l', e1, e4, e5⟩
      · have := sumLen_set hl'
        have := h.cnt
        show s.q + 1 + sumLen (s.ls.set i ys) = tot
        omega
end
instance (L : List Int) (x : Int) : Decidable (∃ k : Nat, L[k]? = some x) := decidable_of_iff (x ∈ L) List.mem_iff_getElem?
/-- Whether an owner still wants or holds locks. -/
def busyB (s : TP) (i : Nat) : Bool := decide (s.ls.getD i [] ≠ [] ∨ ∃ k : Nat, s.L[k]? = some (i : Int))
def busyN (s : TP) : Nat := (List.range s.ls.length).countP (busyB s)
/-- What is left to be done. -/
def phi (s : TP) : Nat := sumLen s.ls + busyN s
theorem countP_less {p q : Nat → Bool} {i : Nat} : ∀ {l : List Nat}, (∀ x ∈ l, p x = true → q x = true) → i ∈ l → p i = false → q i = true → l.countP p + 1 ≤ l.countP q
  | [], _, h, _, _ => by cases h
  | a :: l, hm, hi, h1, h2 => by
    have hm' : ∀ x ∈ l, p x = true → q x = true := fun x hx => hm x (List.mem_cons_of_mem _ hx)
    rw [List.countP_cons, List.countP_cons]
    rcases List.mem_cons.1 hi with e | e
    · subst e
      have := List.countP_mono_left hm'
      rw [h1, h2]
      simp
      omega
    · have := countP_less hm' e h1 h2
      have ha := hm a (by simp)
      cases hp : p a
      · simp
        split <;> omega
      · rw [ha hp]
        simp
        omega
section
variable {n tot : Nat} {s : TP} {i : Nat}
theorem phi_step (h : TInv n tot s) (hi : i < n) : tstep s i = s ∨ phi (tstep s i) + 1 ≤ phi s := by
  have hi' : i < s.ls.length := by rw [h.len]; exact hi
  cases hl : s.ls[i] with
  | nil =>
    have hl' : s.ls[i]? = some [] := by rw [List.getElem?_eq_getElem hi', hl]
    have hd : s.ls.getD i [] = [] := by rw [List.getD_eq_getElem?_getD, hl']; rfl
    rw [tstep_nil hl']
    by_cases hh : ∃ k : Nat, s.L[k]? = some (i : Int)
    · right
      unfold phi busyN
      show sumLen s.ls + _ + 1 ≤ _
      have := countP_less (p := busyB ⟨relL s.L (i : Int), s.ls, s.q⟩) (q := busyB s) (i := i) (l := List.range s.ls.length) ?_ (List.mem_range.2 hi') ?_ ?_
      · show sumLen s.ls + (List.range s.ls.length).countP _ + 1 ≤ _
        omega
      · intro x _ hx
        unfold busyB at hx ⊢
        have hx := of_decide_eq_true hx
        refine decide_eq_true ?_
        rcases hx with hx | ⟨k, hk⟩
        · exact .inl hx
        · exact .inr ⟨k, relL_get hk (by omega)⟩
      · unfold busyB
        refine decide_eq_false ?_
        rintro (hx | ⟨k, hk⟩)
        · exact hx hd
        · have h2 := relL_get hk (by omega)
          unfold relL at hk
          rw [List.getElem?_map, h2] at hk
          have := Option.some.inj hk
          simp at this <;> omega
      · unfold busyB
        exact decide_eq_true (.inr hh)
    · left
      have : relL s.L (i : Int) = s.L := by
        unfold relL
        conv => rhs; rw [← List.map_id s.L]
        refine List.map_congr_left fun x hx => ?_
        rw [if_neg]
        · rfl
        · rintro ⟨e, _⟩
          obtain ⟨k, hk⟩ := List.mem_iff_getElem?.1 hx
          exact hh ⟨k, by rw [hk, e]⟩
      rw [this]
  | cons y ys =>
    have hl' : s.ls[i]? = some (y :: ys) := by rw [List.getElem?_eq_getElem hi', hl]
    by_cases hb : 0 ≤ ownL s.L (y : Int)
    · exact .inl (h.step_wait hl' hb)
    · right
      have hb' : ownL s.L (y : Int) < 0 := by omega
      rw [h.step_go hl' hb']
      unfold phi busyN
      have h1 := sumLen_set hl'
      have h2 : (List.range (s.ls.set i ys).length).countP (busyB ⟨s.L.set y (i : Int), s.ls.set i ys, s.q + 1⟩) ≤ (List.range s.ls.length).countP (busyB s) := by
        rw [List.length_set]
        refine List.countP_mono_left fun x _ hx => ?_
        unfold busyB at hx ⊢
        have hx := of_decide_eq_true hx
        refine decide_eq_true ?_
        by_cases e : x = i
        · subst e
          left
          rw [List.getD_eq_getElem?_getD, hl']
          simp
        · rcases hx with hx | ⟨k, hk⟩
          · left
            change (s.ls.set i ys).getD x [] ≠ [] at hx
            rwa [List.getD_eq_getElem?_getD, List.getElem?_set_ne (Ne.symm e), ← List.getD_eq_getElem?_getD] at hx
          · right
            change (s.L.set y (i : Int))[k]? = some (x : Int) at hk
            rw [List.getElem?_set] at hk
            split at hk
            · split at hk
              · have := Option.some.inj hk
                omega
              · cases hk
            · exact ⟨k, hk⟩
      show sumLen (s.ls.set i ys) + (List.range (s.ls.set i ys).length).countP (busyB ⟨s.L.set y (i : Int), s.ls.set i ys, s.q + 1⟩) + 1 ≤ _
      omega
/-- Where no turn does anything, all is done. -/
theorem TInv.stuck (h : TInv n tot s) (hs : ∀ i, i < n → tstep s i = s) : phi s = 0 := by
  have rel : ∀ j : Nat, s.ls[j]? = some [] → ∀ k : Nat, s.L[k]? ≠ some (j : Int) := by
    intro j hj k hk
    have hjn : j < n := by rw [← h.len]; exact (List.getElem?_eq_some_iff.1 hj).1
    have e := hs j hjn
    rw [tstep_nil hj] at e
    have e2 : relL s.L (j : Int) = s.L := congrArg TP.L e
    rw [← e2] at hk
    have h2 := relL_get hk (by omega)
    unfold relL at hk
    rw [List.getElem?_map, h2] at hk
    have := Option.some.inj hk
    simp at this <;> omega
  have wait : ∀ (j y : Nat) (ys : List Nat), s.ls[j]? = some (y :: ys) → 0 ≤ ownL s.L (y : Int) := by
    intro j y ys hj
    have hjn : j < n := by rw [← h.len]; exact (List.getElem?_eq_some_iff.1 hj).1
    by_cases hb : 0 ≤ ownL s.L (y : Int)
    · exact hb
    · have e := hs j hjn
      rw [h.step_go hj (by omega)] at e
      have : s.q + 1 = s.q := congrArg TP.q e
      omega
  have none : ∀ j : Nat, j < n → s.ls[j]? = some [] := by
    intro j hj
    have hj' : j < s.ls.length := by rw [h.len]; exact hj
    cases hl : s.ls[j] with
    | nil => rw [List.getElem?_eq_getElem hj', hl]
    | cons y ys =>
      exfalso
      have hl' : s.ls[j]? = some (y :: ys) := by rw [List.getElem?_eq_getElem hj', hl]
      have h0 := wait j y ys hl'
      have hy := (h.asc j _ hl').2 y (by simp)
      rcases topL_held s.L 12 with ht | ht
      · have := topL_free s.L 12 (y : Int) (by omega) (by omega)
        omega
      · obtain ⟨t1, t2⟩ := topL_lt s.L 12
        by_cases hneg : topL s.L 12 < 0
        · have := topL_free s.L 12 (y : Int) (by omega) (by omega)
          omega
        · obtain ⟨t, e⟩ : ∃ t : Nat, topL s.L 12 = (t : Int) := ⟨(topL s.L 12).toNat, by omega⟩
          rw [e] at ht
          obtain ⟨o, l, e1, e2, e3⟩ := h.own t _ (ownL_get ht) ht
          cases l with
          | nil => exact rel o e2 t (by rw [← e1]; exact ownL_get ht)
          | cons z zs =>
            have h1 := wait o z zs e2
            have h2 := e3 z (by simp)
            have h3 := (h.asc o _ e2).2 z (by simp)
            have := topL_free s.L 12 (z : Int) (by omega) (by omega)
            omega
  have h1 : sumLen s.ls = 0 := by
    refine sumLen_zero fun l hl => ?_
    obtain ⟨j, hj⟩ := List.mem_iff_getElem?.1 hl
    have hjn : j < n := by rw [← h.len]; exact (List.getElem?_eq_some_iff.1 hj).1
    rw [none j hjn] at hj
    exact (Option.some.inj hj).symm
  have h2 : busyN s = 0 := by
    unfold busyN
    rw [List.countP_eq_zero]
    intro j hj hb
    have hjn : j < n := by rw [← h.len]; exact List.mem_range.1 hj
    have hb := of_decide_eq_true hb
    rcases hb with hb | ⟨k, hk⟩
    · apply hb
      rw [List.getD_eq_getElem?_getD, none j hjn]
      rfl
    · exact rel j (none j hjn) k hk
  unfold phi
  omega
theorem TInv.fold : ∀ (is : List Nat) {s : TP}, TInv n tot s → (∀ i ∈ is, i < n) → TInv n tot (is.foldl tstep s) ∧ ((∀ i ∈ is, tstep s i = s) ∧ is.foldl tstep s = s ∨ phi (is.foldl tstep s) + 1 ≤ phi s)
  | [], s, h, _ => ⟨h, .inl ⟨fun _ h => (by cases h), rfl⟩⟩
  | i :: is, s, h, hi => by
    have h1 := h.step (hi i (by simp))
    obtain ⟨h2, h3⟩ := TInv.fold is h1 fun j hj => hi j (List.mem_cons_of_mem _ hj)
    refine ⟨h2, ?_⟩
    rw [List.foldl_cons]
    rcases phi_step h (hi i (by simp)) with e | e
    · rw [e] at h3 ⊢
      rcases h3 with ⟨h4, h5⟩ | h4
      · refine .inl ⟨fun j hj => ?_, h5⟩
        rcases List.mem_cons.1 hj with e2 | e2
        · rw [e2]; exact e
        · exact h4 j e2
      · exact .inr h4
    · rcases h3 with ⟨_, h5⟩ | h4
      · rw [h5]; exact .inr e
      · exact .inr (by omega)
/-- A round, in which each owner has a turn, does something, or all is done. -/
theorem TInv.round (h : TInv n tot s) : phi ((List.range n).foldl tstep s) ≤ phi s - 1 := by
  rcases (TInv.fold (List.range n) h fun i hi => List.mem_range.1 hi).2 with ⟨h1, h2⟩ | h1
  · have := h.stuck fun i hi => h1 i (List.mem_range.2 hi)
    rw [h2]
    omega
  · omega
theorem TInv.phi_le (h : TInv n tot s) : phi s ≤ tot + n := by
  have h1 := List.countP_le_length (p := busyB s) (l := List.range s.ls.length)
  rw [List.length_range, h.len] at h1
  have h2 := h.cnt
  unfold phi busyN
  rw [h.len]
  omega
theorem TInv.done (h : TInv n tot s) (h0 : phi s = 0) : freeL s.L = true ∧ s.q = tot := by
  unfold phi at h0
  refine ⟨?_, by have := h.cnt; omega⟩
  unfold freeL
  rw [List.all_eq_true]
  intro x hx
  refine decide_eq_true ?_
  obtain ⟨k, hk⟩ := List.mem_iff_getElem?.1 hx
  by_cases hx0 : 0 ≤ x
  · exfalso
    obtain ⟨i, l, e1, e2, _⟩ := h.own k x hk hx0
    have hb : busyN s = 0 := by omega
    unfold busyN at hb
    rw [List.countP_eq_zero] at hb
    refine hb i (List.mem_range.2 (List.getElem?_eq_some_iff.1 e2).1) ?_
    unfold busyB
    exact decide_eq_true (.inr ⟨k, by rw [hk, e1]⟩)
  · omega
/-- At the beginning. -/
theorem TInv.start {ls : List (List Nat)} (h : ∀ l ∈ ls, l.Pairwise (· < ·) ∧ ∀ y ∈ l, y < 12) : TInv ls.length (sumLen ls) ⟨List.replicate 12 (-1), ls, 0⟩ := by
  refine ⟨rfl, List.length_replicate, fun i l hl => h l (List.mem_of_getElem? hl), fun k x hk hx => ?_, by simp⟩
  have := (List.mem_replicate.1 (List.mem_of_getElem? hk)).2
  omega
end
end Go.Proofs.Ytpfplniokjkcbaa
