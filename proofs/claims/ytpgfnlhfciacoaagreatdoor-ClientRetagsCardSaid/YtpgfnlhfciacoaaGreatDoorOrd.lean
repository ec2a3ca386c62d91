/- Regions that draw their order, by an invariant over what is listed. No program. -/
import Derived.WalkKit
import Derived.Orders
import Derived.BigRegion
namespace Go.Proofs.YtpgfnlhfciacoaaGreatDoor
open Go.RowKit

section
variable {P : Program} {ops : Array Oper} {Q : Exit → Act → World → Prop}

theorem ready_of {listed : Array Bool} {i : Nat} (h : i ∈ Region.ready .any ops listed) : listed.getD i true = false ∧ ∃ o, ops[i]? = some o ∧ ∀ e ∈ o.after, Region.binds .any e = true → listed.getD e.on false = true := by
  unfold Region.ready at h
  rw [List.mem_filter] at h
  obtain ⟨_, h⟩ := h
  rw [Bool.and_eq_true] at h
  refine ⟨by simpa using h.1, ?_⟩
  cases ho : ops[i]? with
  | none => rw [ho] at h; simp at h
  | some o =>
    rw [ho] at h
    refine ⟨o, rfl, fun e he hb => ?_⟩
    have h2 : o.after.all (fun e => !Region.binds .any e || listed.getD e.on false) = true := by simpa using h.2
    rw [Array.all_eq_true'] at h2
    have := h2 e he
    rw [hb] at this
    simpa using this
theorem ready_mk {listed : Array Bool} {i : Nat} {o : Oper} (hi : ops[i]? = some o) (h1 : listed.getD i true = false) (h2 : ∀ e ∈ o.after, listed.getD e.on false = true) : i ∈ Region.ready .any ops listed := by
  unfold Region.ready
  rw [List.mem_filter]
  refine ⟨List.mem_range.2 (Array.getElem?_eq_some_iff.1 hi).1, ?_⟩
  rw [hi, h1]
  have : o.after.all (fun e => !Region.binds .any e || listed.getD e.on false) = true := by
    rw [Array.all_eq_true']
    intro e he
    rw [h2 e he, Bool.or_true]
  simpa using this
def cntF (l : Array Bool) : Nat := l.toList.count false
theorem cntF_set {l : Array Bool} {i : Nat} (h : l.getD i true = false) : cntF (l.setIfInBounds i true) + 1 = cntF l := by
  unfold cntF
  by_cases hi : i < l.size
  · have h0 : l.toList[i]'(by simpa using hi) = false := by simpa [hi] using h
    rw [Array.toList_setIfInBounds]
    have hs : l.toList.set i true = l.toList.take i ++ true :: l.toList.drop (i + 1) := List.set_eq_take_append_cons_drop.trans (by rw [if_pos (by simpa using hi)])
    have hl : l.toList = l.toList.take i ++ false :: l.toList.drop (i + 1) := by
      conv => lhs; rw [← List.take_append_drop i l.toList, List.drop_eq_getElem_cons (by simpa using hi), h0]
    rw [hs]
    conv => rhs; rw [hl]
    rw [List.count_append, List.count_append, List.count_cons_of_ne (by decide), List.count_cons_self]
    omega
  · rw [Array.getD_eq_getD_getElem?, Array.getElem?_eq_none (by omega)] at h
    simp at h
theorem getD_set {l : Array Bool} {i j : Nat} (hi : i < l.size) : (l.setIfInBounds i true).getD j false = if j = i then true else l.getD j false := by
  rw [Array.getD_eq_getD_getElem?, Array.getElem?_setIfInBounds]
  by_cases h : i = j
  · subst h
    simp [hi]
  · rw [if_neg h, if_neg (fun e => h e.symm), Array.getD_eq_getD_getElem?]

/-- A region that draws its order, by an invariant over what is listed. -/
theorem wpAny_inv (I : Array Bool → Act → World → Prop)
    (step : ∀ listed a w i, listed.size = ops.size → I listed a w → i ∈ Region.ready .any ops listed → wpOp P ops Q i (fun a' w' => I (listed.setIfInBounds i true) a' w') a w)
    (done : ∀ listed a w, listed.size = ops.size → I listed a w → Region.ready .any ops listed = [] → Q .normal a w) :
    ∀ fuel listed a w, listed.size = ops.size → cntF listed ≤ fuel → I listed a w → wpAny P .any ops Q fuel listed a w := by
  intro fuel
  induction fuel with
  | zero =>
    intro listed a w hs hc hI
    have hr : Region.ready .any ops listed = [] := by
      rw [List.eq_nil_iff_forall_not_mem]
      intro i hi
      obtain ⟨h1, _⟩ := ready_of hi
      have := cntF_set h1
      omega
    exact ⟨hr, done listed a w hs hI hr⟩
  | succ fuel ih =>
    intro listed a w hs hc hI
    refine ⟨fun hr => done listed a w hs hI hr, fun i hi => wpOp_mono (fun a' w' hI' => ih _ a' w' (by rw [Array.size_setIfInBounds]; exact hs) ?_ hI') (step listed a w i hs hI hi)⟩
    obtain ⟨h1, _⟩ := ready_of hi
    have := cntF_set h1
    omega
/-- Nothing is ready: all are listed, where each waits for earlier ones alone. -/
theorem all_listed {listed : Array Bool} (hs : listed.size = ops.size) (hr : Region.ready .any ops listed = []) (hb : ∀ (i : Nat) (o : Oper), ops[i]? = some o → ∀ e ∈ o.after, e.on < i) : ∀ n i, i < n → i < ops.size → listed.getD i false = true := by
  intro n
  induction n with
  | zero => intro i hi; omega
  | succ n ih =>
    intro i hi hio
    cases hl : listed.getD i true with
    | true =>
      rw [Array.getD_eq_getD_getElem?, Array.getElem?_eq_getElem (by omega)] at hl ⊢
      simpa using hl
    | false =>
      have ho := Array.getElem?_eq_getElem hio
      have := ready_mk ho hl (fun e he => ih e.on (by have := hb i _ ho e he; omega) (by have := hb i _ ho e he; omega))
      rw [hr] at this
      cases this

theorem wpOp_of {i : Nat} {o : Oper} {K : Act → World → Prop} {a : Act} {w : World} (hi : ops[i]? = some o) (hg : o.guard = none) (h : o.wp P a w K Q) : wpOp P ops Q i K a w := by
  unfold wpOp
  rw [hi]
  simp only [Region.wanted, hg]
  exact .inl h
end

theorem tm_put (a : Act) (d j : Nat) (v : Value) (hd : d < a.tmps.size) : (a.put (some d) v).tmps[j]? = if j = d then some v else a.tmps[j]? := by
  show (a.tmps.setIfInBounds d v)[j]? = _
  rw [Array.getElem?_setIfInBounds]
  by_cases h : d = j
  · subst h; simp [hd]
  · rw [if_neg h, if_neg (fun e => h e.symm)]

theorem getD_tf {l : Array Bool} {i : Nat} (hi : i < l.size) (h : l.getD i true = false) : l.getD i false = false := by
  rw [Array.getD_eq_getD_getElem?, Array.getElem?_eq_getElem hi] at h ⊢
  simpa using h

theorem repl_getD (n i : Nat) : (Array.replicate n false).getD i false = false := by
  rw [Array.getD_eq_getD_getElem?, Array.getElem?_replicate]
  split <;> rfl

end Go.Proofs.YtpgfnlhfciacoaaGreatDoor
