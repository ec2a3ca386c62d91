/- A region that draws its order: whatever the order, each operation yields what is known ahead, and what is known of the world is kept. -/
import Derived.Test.YthfopimgdikpgaaGreatDoorRules
import Derived.Test.YthfopimgdikpgaaGreatDoorGz
import Derived.Test.YthfopimgdikpgaaGreatDoorSame7R
import Derived.Test.YthfopimgdikpgaaGreatDoorCmdAlive
import Derived.Test.YthfopimgdikpgaaGreatDoorCmdEq
namespace Go.Proofs.YthfopimgdikpgaaGreatDoor
open Go.RowKit

section
/-- The operation that writes a slot. -/
def dwriter (ops : Array Oper) (t : Nat) : Option Nat := (List.range ops.size).find? fun k => (ops[k]?).any fun o => o.dst == some t
/-- The operations that come ahead of each, by the edges that bind. -/
def dahead (ops : Array Oper) : List (List Nat) :=
  (List.range ops.size).foldl (fun acc i =>
    let d := ((ops[i]?).map fun o => (o.after.toList.filter fun e => Region.binds .any e).map (·.on)).getD []
    acc ++ [(d ++ d.flatMap fun k => acc.getD k []).eraseDups]) []
def dal (anc : List (List Nat)) (i : Nat) : List Nat := anc.getD i []
/-- What an operand holds when operation i is carried out. -/
def dval (ops : Array Oper) (anc : List (List Nat)) (V : Nat → Value) (T : Array Value) (i : Nat) : Operand → Value
  | .tmp t => match dwriter ops t with
    | some k => if (dal anc i).contains k then V k else T.getD t undef
    | none => T.getD t undef
  | .const v => v
  | .global g => .pointer (some ⟨g, 0, none⟩)
  | .func f => .func (.func f) #[] #[]
/-- What is asked of the operations' order. -/
def dfit (ops : Array Oper) (anc : List (List Nat)) (n i : Nat) (o : Oper) : Bool :=
  ((dal anc i).all fun k => o.after.toList.any fun e => Region.binds .any e && (e.on == k || (dal anc e.on).contains k)) &&
  ((o.after.toList.all fun e => decide (e.on < i)) &&
  ((match o.op with | .select _ _ => false | _ => true) &&
  ((match o.dst with | some d => decide (d < n) && (dwriter ops d == some i) | none => true) &&
  ((match o.guard with | some (g, _) => (dal anc i).contains g && ((ops[g]?).any fun x => x.dst.isSome) | none => true) &&
  (o.op.operands.toList.all fun x => match x with
      | .tmp t => match dwriter ops t with
        | some k => (dal anc i).contains k || (k == i || (dal anc k).contains i)
        | none => true
      | _ => true)))))
def dfits (ops : Array Oper) (anc : List (List Nat)) (n : Nat) : Bool :=
  (List.range ops.size).all fun i => (ops[i]?).all fun o => dfit ops anc n i o
/-- Is operation o carried out, by what its guard yields? -/
def dwant (V : Nat → Value) (o : Oper) : Bool :=
  match o.guard with
  | none => true
  | some (g, b) => match V g with
    | .bool b' => b' == b
    | _ => false
def dset (m : Nat → Bool) (i : Nat) : Nat → Bool := fun j => if j = i then true else m j
/-- What carrying an operation out must lead to. -/
def DUp (P : Program) (v : Value) (S : World → Prop) (R : List PanicEntry → World → Prop) : Result Next → Prop
  | .ok (.value u) w => u = v ∧ S w
  | .ok .skip w => v = undef ∧ S w
  | .ok (.enter f args) w => Calls P f args w fun e w' => (e = .returned v ∧ S w') ∨ (∃ c, e = .panicked c ∧ R c w')
  | _ => False
def DStep (P : Program) (o : Oper) (ρ : Operand → Value) (V : Nat → Value) (i : Nat) (S : World → Prop) (R : List PanicEntry → World → Prop) (w : World) : Prop :=
  if dwant V o = true then DUp P (V i) S R ((execOp ρ o).run P w) else V i = undef ∧ S w
/-- The region with a number. -/
def dfind (n : Nat) : Code → Option (Array Oper)
  | .region id ops _ => if id == n then some ops else none
  | .seq a b => match dfind n a with | some o => some o | none => dfind n b
  | .cond _ a b => match dfind n a with | some o => some o | none => dfind n b
  | .block _ b => dfind n b
  | .loop b => dfind n b
  | .rangeFunc _ _ a b => match dfind n a with | some o => some o | none => dfind n b
  | _ => none
/-- The slots behind the region. -/
def dslot (ops : Array Oper) (V : Nat → Value) (T : Array Value) (j : Nat) : Value :=
  match dwriter ops j with
  | some k => V k
  | none => T.getD j undef
def dfin (ops : Array Oper) (V : Nat → Value) (T : Array Value) : Array Value := ((List.range T.size).map (dslot ops V T)).toArray
end

section
variable {P : Program} {ops : Array Oper} {Q : Exit → Act → World → Prop} {anc : List (List Nat)} {V : Nat → Value} {T : Array Value} {D : List Deferred} {S : (Nat → Bool) → World → Prop} {R : List PanicEntry → World → Prop}

@[simp] theorem dval_func {i : Nat} {f : FuncId} : dval ops anc V T i (.func f) = .func (.func f) #[] #[] := rfl
@[simp] theorem dval_const {i : Nat} {v : Value} : dval ops anc V T i (.const v) = v := rfl
@[simp] theorem dval_global {i : Nat} {g : Nat} : dval ops anc V T i (.global g) = .pointer (some ⟨g, 0, none⟩) := rfl
theorem dexec_load {o : Oper} {ρ : Operand → Value} {t : TypeId} {x : Operand} {v : Value} {w : World} (h : o.op = .load t x) (hr : (Instr.loadAt t (ρ x)).run P w = .ok v w) : (execOp ρ o).run P w = .ok (.value v) w := by
  unfold execOp
  rw [h]
  simp [hr, Result.andThen]
theorem dexec_store {o : Oper} {ρ : Operand → Value} {t : TypeId} {x y : Operand} {w w' : World} (h : o.op = .store t x y) (hr : (Instr.storeAt t (ρ x) (ρ y)).run P w = .ok () w') : (execOp ρ o).run P w = .ok .skip w' := by
  unfold execOp
  rw [h]
  simp [hr, Result.andThen]
theorem dexec_field {o : Oper} {ρ : Operand → Value} {t : TypeId} {x : Operand} {k : Nat} {v : Value} {w : World} (h : o.op = .fieldAddr t x k) (hr : (Instr.fieldAt t (ρ x) k).run P w = .ok v w) : (execOp ρ o).run P w = .ok (.value v) w := by
  unfold execOp
  rw [h]
  simp [hr, Result.andThen]
theorem dexec_call {o : Oper} {ρ : Operand → Value} {f : FuncId} {xs : Array Operand} {ts : Array TypeId} {args : Array Value} {w : World} (h : o.op = .call { callee := .value (.func f), args := xs, argTypes := ts }) (hf : ρ (.func f) = .func (.func f) #[] #[]) (hr : (callFunc f (xs.map ρ)).run P w = .ok (.enter f args) w) : (execOp ρ o).run P w = .ok (.enter f args) w := by
  simp [execOp, h, hf, go_sem, hr]
theorem dstep_value {o : Oper} {ρ : Operand → Value} {i : Nat} {S : World → Prop} {w w' : World} (hw : dwant V o = true) (h : (execOp ρ o).run P w = .ok (.value (V i)) w') (hS : S w') : DStep P o ρ V i S R w := by
  unfold DStep
  rw [if_pos hw, h]
  exact ⟨rfl, hS⟩
theorem dstep_skip {o : Oper} {ρ : Operand → Value} {i : Nat} {S : World → Prop} {w w' : World} (hw : dwant V o = true) (h : (execOp ρ o).run P w = .ok .skip w') (hV : V i = undef) (hS : S w') : DStep P o ρ V i S R w := by
  unfold DStep
  rw [if_pos hw, h]
  exact ⟨hV, hS⟩
theorem dstep_enter {o : Oper} {ρ : Operand → Value} {i : Nat} {S : World → Prop} {w w' : World} {f : FuncId} {args : Array Value} (hw : dwant V o = true) (h : (execOp ρ o).run P w = .ok (.enter f args) w') (hc : Calls P f args w' fun e w'' => e = .returned (V i) ∧ S w'') : DStep P o ρ V i S R w := by
  unfold DStep
  rw [if_pos hw, h]
  exact hc.mono fun e w'' h => .inl h
theorem dstep_off {o : Oper} {ρ : Operand → Value} {i : Nat} {S : World → Prop} {w : World} (hw : dwant V o = false) (hV : V i = undef) (hS : S w) : DStep P o ρ V i S R w := by
  unfold DStep
  rw [if_neg (by rw [hw]; decide)]
  exact ⟨hV, hS⟩

theorem dwriter_some {t k : Nat} (h : dwriter ops t = some k) : ∃ o, ops[k]? = some o ∧ o.dst = some t := by
  unfold dwriter at h
  have := List.find?_some h
  cases ho : ops[k]? with
  | none => rw [ho] at this; simp at this
  | some o => rw [ho] at this; exact ⟨o, rfl, by simpa using this⟩
theorem dwriter_none {t : Nat} (h : dwriter ops t = none) {k : Nat} {o : Oper} (ho : ops[k]? = some o) : o.dst ≠ some t := by
  unfold dwriter at h
  have := List.find?_eq_none.1 h k (List.mem_range.2 (Array.getElem?_eq_some_iff.1 ho).1)
  rw [ho] at this
  simpa using this
theorem dfits_at {n : Nat} (h : dfits ops anc n = true) {i : Nat} {o : Oper} (ho : ops[i]? = some o) : dfit ops anc n i o = true := by
  unfold dfits at h
  rw [List.all_eq_true] at h
  have := h i (List.mem_range.2 (Array.getElem?_eq_some_iff.1 ho).1)
  rw [ho] at this
  exact this

/-- What holds while operations are listed. -/
structure DI (ops : Array Oper) (anc : List (List Nat)) (V : Nat → Value) (T : Array Value) (D : List Deferred) (S : (Nat → Bool) → World → Prop) (listed : Array Bool) (a : Act) (w : World) : Prop where
  defers : a.defers = D
  size : a.tmps.size = T.size
  new : ∀ i o d, ops[i]? = some o → o.dst = some d → listed.getD i false = true → a.tmps[d]? = some (V i)
  old : ∀ d, (∀ i o, ops[i]? = some o → o.dst = some d → listed.getD i false = false) → a.tmps[d]? = T[d]?
  closed : ∀ i, listed.getD i false = true → ∀ k ∈ dal anc i, listed.getD k false = true
  world : S (fun i => listed.getD i false) w

theorem dget {a : Act} {d : Nat} {v : Value} (h : a.tmps[d]? = some v) : a.eval (.tmp d) = v := by
  show a.tmps.getD d undef = v
  rw [Array.getD_eq_getD_getElem?, h]
  rfl
theorem dget_old {a : Act} {d : Nat} (h : a.tmps[d]? = T[d]?) : a.eval (.tmp d) = T.getD d undef := by
  show a.tmps.getD d undef = _
  rw [Array.getD_eq_getD_getElem?, Array.getD_eq_getD_getElem?, h]

theorem DI.put {listed : Array Bool} {a : Act} {w w' : World} {i : Nat} {o : Oper} (hI : DI ops anc V T D S listed a w) (hfit : dfits ops anc T.size = true) (ho : ops[i]? = some o) (hs : i < listed.size) (hk : ∀ k ∈ dal anc i, listed.getD k false = true) (hw : S (dset (fun j => listed.getD j false) i) w') :
    DI ops anc V T D S (listed.setIfInBounds i true) (a.put o.dst (V i)) w' := by
  have hm : ∀ j, (listed.setIfInBounds i true).getD j false = if j = i then true else listed.getD j false := fun j => getD_set hs
  have hf := dfits_at hfit ho
  simp only [dfit, Bool.and_eq_true] at hf
  obtain ⟨_, _, _, hd, _⟩ := hf
  have hp : ∀ j, (a.put o.dst (V i)).tmps[j]? = if o.dst = some j then some (V i) else a.tmps[j]? := by
    intro j
    cases hdd : o.dst with
    | none => rw [if_neg (by simp)]; rfl
    | some d =>
      rw [hdd] at hd
      have hlt : d < a.tmps.size := by rw [hI.size]; simp at hd; exact hd.1
      rw [tm_put _ _ _ _ hlt]
      by_cases e : j = d
      · rw [if_pos e, if_pos (by rw [e])]
      · rw [if_neg e, if_neg (by intro h; injection h with h; exact e h.symm)]
  have hu : ∀ j (oj : Oper) d, ops[j]? = some oj → oj.dst = some d → o.dst = some d → j = i := by
    intro j oj d hj hjd hid
    have h1 := dfits_at hfit hj
    simp only [dfit, Bool.and_eq_true] at h1
    obtain ⟨_, _, _, h1, _⟩ := h1
    rw [hjd] at h1
    rw [hid] at hd
    simp at h1 hd
    have := h1.2.symm.trans hd.2
    injection this
  refine ⟨?_, ?_, ?_, ?_, ?_, ?_⟩
  · cases hdd : o.dst <;> exact hI.defers
  · rw [← hI.size]
    cases hdd : o.dst with
    | none => rfl
    | some d => simp [Act.put]
  · intro j oj d hj hjd hl
    rw [hm] at hl
    rw [hp]
    by_cases e : j = i
    · subst e
      obtain rfl := Option.some.inj (ho.symm.trans hj)
      rw [if_pos hjd]
    · rw [if_neg e] at hl
      rw [if_neg (fun h => e (hu j oj d hj hjd h))]
      exact hI.new j oj d hj hjd hl
  · intro d h
    rw [hp]
    by_cases e : o.dst = some d
    · have := h i o ho e
      rw [hm, if_pos rfl] at this
      cases this
    · rw [if_neg e]
      refine hI.old d fun j oj hj hjd => ?_
      have := h j oj hj hjd
      rw [hm] at this
      split at this
      · cases this
      · exact this
  · intro j hj k hkk
    rw [hm] at hj ⊢
    by_cases e : j = i
    · subst e
      rw [hk k hkk]
      simp
    · rw [if_neg e] at hj
      rw [hI.closed j hj k hkk]
      simp
  · have : (fun j => (listed.setIfInBounds i true).getD j false) = dset (fun j => listed.getD j false) i := funext fun j => by rw [hm]; rfl
    rw [this]
    exact hw

/-- The same, where a step may use that what comes ahead of a listed operation is listed. -/
theorem drawn_region_cl {id : Nat} {w : World} (hm : P.follows .mixedOrders = true) (hfit : dfits ops anc T.size = true)
    (hS0 : S (fun _ => false) { w with drawn := w.drawn + 1 })
    (hstep : ∀ i o, ops[i]? = some o → ∀ m w', (∀ j, m j = true → ∀ k ∈ dal anc j, m k = true) → (∀ k ∈ dal anc i, m k = true) → m i = false → S m w' → DStep P o (dval ops anc V T i) V i (S (dset m i)) R w')
    (hp : ∀ c a w', a.defers = D → a.tmps.size = T.size → (∀ j, dwriter ops j = none → a.tmps[j]? = T[j]?) → R c w' → Q (.panic c) a w')
    (hdone : ∀ w', S (fun i => decide (i < ops.size)) w' → Q .normal { tmps := dfin ops V T, defers := D } w') :
    (Code.region id ops true).wp P Q { tmps := T, defers := D } w := by
  refine wp_region_any hm ?_
  refine wpAny_inv (DI ops anc V T D S) ?step ?done ops.size _ _ _ (by rw [Array.size_replicate]) ?cnt ?start
  case cnt => unfold cntF; simp
  case start =>
    refine ⟨rfl, rfl, ?_, ?_, ?_, ?_⟩
    · intro i o d _ _ h; rw [repl_getD] at h; cases h
    · intro d _; rfl
    · intro i h; rw [repl_getD] at h; cases h
    · have : (fun i => (Array.replicate ops.size false).getD i false) = fun _ => false := funext fun i => repl_getD _ _
      rw [this]
      exact hS0
  case done =>
    intro listed a w1 hs hI hr
    have hb : ∀ (i : Nat) (o : Oper), ops[i]? = some o → ∀ e ∈ o.after, e.on < i := by
      intro i o ho e he
      have h1 := dfits_at hfit ho
      simp only [dfit, Bool.and_eq_true] at h1
      obtain ⟨_, h1, _⟩ := h1
      rw [List.all_eq_true] at h1
      simpa using h1 e (by simpa using he)
    have hall : ∀ i, i < ops.size → listed.getD i false = true := fun i hi => all_listed hs hr hb ops.size i hi hi
    have hmm : (fun i => listed.getD i false) = fun i => decide (i < ops.size) := funext fun i => by
      by_cases h : i < ops.size
      · rw [hall i h]; simp [h]
      · rw [Array.getD_eq_getD_getElem?, Array.getElem?_eq_none (by omega)]; simp [h]
    have hw := hI.world
    rw [hmm] at hw
    obtain ⟨tm, df⟩ := a
    have h1 : df = D := hI.defers
    subst h1
    have h2 : tm = dfin ops V T := by
      apply Array.ext_getElem?
      intro j
      have hz : tm.size = T.size := hI.size
      unfold dfin
      have e : ∀ L : List Value, L.toArray[j]? = L[j]? := fun L => List.getElem?_toArray
      rw [e (List.map _ _), List.getElem?_map]
      by_cases hj : j < T.size
      · rw [List.getElem?_range hj]
        show tm[j]? = some (dslot ops V T j)
        unfold dslot
        cases hd : dwriter ops j with
        | some k =>
          obtain ⟨o, ho, hod⟩ := dwriter_some hd
          exact hI.new k o j ho hod (hall k (Array.getElem?_eq_some_iff.1 ho).1)
        | none =>
          have := hI.old j (fun i o ho hod => absurd hod (dwriter_none hd ho))
          have this : tm[j]? = T[j]? := this
          rw [this, Array.getElem?_eq_getElem hj]
          simp [hj]
      · rw [Array.getElem?_eq_none (by omega), List.getElem?_eq_none (by simpa using hj)]
        rfl
    rw [h2]
    exact hdone w1 hw
  case step =>
    intro listed a w1 i hs hI hi
    obtain ⟨hl, o, ho, hafter⟩ := ready_of hi
    have hlt : i < listed.size := by rw [hs]; exact (Array.getElem?_eq_some_iff.1 ho).1
    have hl2 := getD_tf hlt hl
    have hf := dfits_at hfit ho
    simp only [dfit, Bool.and_eq_true] at hf
    obtain ⟨f1, _, f3, _, f5, f6⟩ := hf
    have hk : ∀ k ∈ dal anc i, listed.getD k false = true := by
      intro k hk
      rw [List.all_eq_true] at f1
      have := f1 k hk
      rw [List.any_eq_true] at this
      obtain ⟨e, he, h⟩ := this
      rw [Bool.and_eq_true, Bool.or_eq_true] at h
      have hle := hafter e (by simpa using he) h.1
      rcases h.2 with h | h
      · rw [← (by simpa using h : e.on = k)]; exact hle
      · exact hI.closed e.on hle k (by simpa using h)
    have hrho : ∀ x ∈ o.op.operands, a.eval x = dval ops anc V T i x := by
      intro x hx
      rw [List.all_eq_true] at f6
      have h6 := f6 x (by simpa using hx)
      cases x with
      | const v => rfl
      | global g => rfl
      | func f => rfl
      | tmp t =>
        unfold dval
        simp only at h6 ⊢
        cases hd : dwriter ops t with
        | none =>
          exact dget_old (hI.old t (fun j oj hj hjd => absurd hjd (dwriter_none hd hj)))
        | some k =>
          rw [hd] at h6
          simp only at h6 ⊢
          obtain ⟨ok, hok, hokd⟩ := dwriter_some hd
          cases hc : (dal anc i).contains k with
          | true =>
            rw [if_pos rfl]
            exact dget (hI.new k ok t hok hokd (hk k (by simpa using hc)))
          | false =>
            rw [if_neg (by decide)]
            rw [hc, Bool.false_or, Bool.or_eq_true] at h6
            refine dget_old (hI.old t (fun j oj hj hjd => ?_))
            have hjk : j = k := by
              have h1 := dfits_at hfit hj
              simp only [dfit, Bool.and_eq_true] at h1
              obtain ⟨_, _, _, h1, _⟩ := h1
              rw [hjd] at h1
              simp at h1
              exact Option.some.inj (h1.2.symm.trans hd)
            subst hjk
            rcases h6 with h6 | h6
            · rw [(by simpa using h6 : j = i)]; exact hl2
            · cases hlj : listed.getD j false with
              | false => rfl
              | true =>
                have := hI.closed j hlj i (by simpa using h6)
                rw [hl2] at this
                cases this
    have hwant : Region.wanted o (yielded ops a.tmps) = dwant V o := by
      unfold Region.wanted dwant
      cases hg : o.guard with
      | none => rfl
      | some gb =>
        obtain ⟨g, b⟩ := gb
        rw [hg] at f5
        simp only [Bool.and_eq_true] at f5 ⊢
        obtain ⟨f5, f5'⟩ := f5
        cases hog : ops[g]? with
        | none => rw [hog] at f5'; simp at f5'
        | some og =>
          rw [hog] at f5'
          cases hgd : og.dst with
          | none => simp [hgd] at f5'
          | some d =>
            have hn := hI.new g og d hog hgd (hk g (by simpa using f5))
            have hy : yielded ops a.tmps g = match V g with
                | .bool b => some b
                | _ => none := by
              unfold yielded
              rw [hog]
              simp only [Option.bind_some, hgd, hn]
              cases V g <;> rfl
            rw [hy]
            cases V g <;> first | rfl | (cases b <;> rename_i x <;> cases x <;> rfl)
    have hst := hstep i o ho (fun j => listed.getD j false) w1 hI.closed hk hl2 hI.world
    unfold DStep at hst
    unfold wpOp
    rw [ho]
    simp only
    rw [hwant]
    cases hdw : dwant V o with
    | false =>
      rw [hdw] at hst
      simp only [Bool.false_eq_true, if_false] at hst ⊢
      rw [← hst.1]
      exact hI.put hfit ho hlt hk hst.2
    | true =>
      rw [hdw, if_pos rfl] at hst
      simp only [if_true]
      refine .inl ?_
      unfold Oper.wp
      have hsel : ∀ cs b, o.op ≠ .select cs b := by
        intro cs b e
        rw [e] at f3
        cases f3
      rw [execOp_congr o hsel hrho]
      generalize (execOp (dval ops anc V T i) o).run P w1 = r at hst ⊢
      match r, hst with
      | .ok (.value u) w2, h =>
        obtain ⟨rfl, h⟩ := h
        exact hI.put hfit ho hlt hk h
      | .ok .skip w2, h =>
        obtain ⟨h0, h⟩ := h
        show DI ops anc V T D S _ (a.put o.dst undef) w2
        rw [← h0]
        exact hI.put hfit ho hlt hk h
      | .ok (.enter f args) w2, h =>
        rw [Oper.upon_enter]
        refine Calls.mono h ?_
        rintro e w3 (⟨rfl, h⟩ | ⟨c, rfl, h⟩)
        · exact hI.put hfit ho hlt hk h
        · exact hp c a w3 hI.defers hI.size (fun j hj => hI.old j (fun k ok hk' hkd => absurd hkd (dwriter_none hj hk'))) h
theorem drawn_region {id : Nat} {w : World} (hm : P.follows .mixedOrders = true) (hfit : dfits ops anc T.size = true)
    (hS0 : S (fun _ => false) { w with drawn := w.drawn + 1 })
    (hstep : ∀ i o, ops[i]? = some o → ∀ m w', (∀ k ∈ dal anc i, m k = true) → m i = false → S m w' → DStep P o (dval ops anc V T i) V i (S (dset m i)) R w')
    (hp : ∀ c a w', a.defers = D → a.tmps.size = T.size → (∀ j, dwriter ops j = none → a.tmps[j]? = T[j]?) → R c w' → Q (.panic c) a w')
    (hdone : ∀ w', S (fun i => decide (i < ops.size)) w' → Q .normal { tmps := dfin ops V T, defers := D } w') :
    (Code.region id ops true).wp P Q { tmps := T, defers := D } w :=
  drawn_region_cl hm hfit hS0 (fun i o ho m w' _ h1 h2 h3 => hstep i o ho m w' h1 h2 h3) hp hdone
/-- The slots behind the region, as one store after another. -/
def dputN (ops : Array Oper) (V : Nat → Value) (T : Array Value) : Nat → Array Value
  | 0 => T
  | n + 1 => match (ops[n]?).bind (·.dst) with
    | some d => (dputN ops V T n).setIfInBounds d (V n)
    | none => dputN ops V T n
theorem dput_size (n : Nat) : (dputN ops V T n).size = T.size := by
  induction n with
  | zero => rfl
  | succ n ih =>
    unfold dputN
    split
    · rw [Array.size_setIfInBounds]; exact ih
    · exact ih
theorem dput_at (hfit : dfits ops anc T.size = true) (n j : Nat) : (dputN ops V T n)[j]? = match dwriter ops j with
    | some k => if k < n ∧ j < T.size then some (V k) else T[j]?
    | none => T[j]? := by
  induction n with
  | zero =>
    cases dwriter ops j with
    | none => rfl
    | some k => simp [dputN]
  | succ n ih =>
    unfold dputN
    cases ho : ops[n]? with
    | none =>
      simp only [Option.bind_none]
      rw [ih]
      cases hd : dwriter ops j with
      | none => rfl
      | some k =>
        obtain ⟨o, hk, _⟩ := dwriter_some hd
        have hne : k ≠ n := fun e => by rw [e, ho] at hk; cases hk
        have : (k < n ∧ j < T.size) ↔ (k < n + 1 ∧ j < T.size) := by omega
        simp only [this]
    | some o =>
      simp only [Option.bind_some]
      have hf := dfits_at hfit ho
      simp only [dfit, Bool.and_eq_true] at hf
      obtain ⟨_, _, _, hfd, _⟩ := hf
      cases hod : o.dst with
      | none =>
        simp only
        rw [ih]
        cases hd : dwriter ops j with
        | none => rfl
        | some k =>
          obtain ⟨o2, hk, hk2⟩ := dwriter_some hd
          have hne : k ≠ n := fun e => by rw [e, ho] at hk; cases hk; rw [hod] at hk2; cases hk2
          have : (k < n ∧ j < T.size) ↔ (k < n + 1 ∧ j < T.size) := by omega
          simp only [this]
      | some d =>
        simp only
        rw [hod] at hfd
        simp at hfd
        rw [Array.getElem?_setIfInBounds, dput_size]
        by_cases e : d = j
        · subst e
          rw [if_pos rfl, if_pos hfd.1, hfd.2]
          simp [hfd.1]
        · rw [if_neg e, ih]
          cases hd : dwriter ops j with
          | none => rfl
          | some k =>
            obtain ⟨o2, hk, hk2⟩ := dwriter_some hd
            have hne : k ≠ n := fun e2 => by rw [e2, ho] at hk; cases hk; rw [hod] at hk2; injection hk2 with hk2; exact e hk2
            have : (k < n ∧ j < T.size) ↔ (k < n + 1 ∧ j < T.size) := by omega
            simp only [this]
theorem dfin_put (hfit : dfits ops anc T.size = true) : dfin ops V T = dputN ops V T ops.size := by
  apply Array.ext_getElem?
  intro j
  rw [dput_at hfit]
  unfold dfin
  have e : ∀ L : List Value, L.toArray[j]? = L[j]? := fun L => List.getElem?_toArray
  rw [e (List.map _ _), List.getElem?_map]
  by_cases hj : j < T.size
  · rw [List.getElem?_range hj]
    show some (dslot ops V T j) = _
    unfold dslot
    cases hd : dwriter ops j with
    | none => simp [hj]
    | some k =>
      obtain ⟨o, ho, _⟩ := dwriter_some hd
      have hk := (Array.getElem?_eq_some_iff.1 ho).1
      simp [hk, hj]
  · rw [List.getElem?_eq_none (by simpa using hj)]
    have h1 : T[j]? = none := Array.getElem?_eq_none (by omega)
    cases dwriter ops j with
    | none => exact h1.symm
    | some k => simp [hj]
end
end Go.Proofs.YthfopimgdikpgaaGreatDoor

namespace Go.Proofs.YthfopimgdikpgaaGreatDoor
open Go.RowKit

/-- A command's fields as Same takes them. -/
def ciOf (c : Cmd) : CI := { tag := c.tag, kind := c.kind, mbox := c.mbox, set := c.set, items := c.items, mode := c.mode, silent := c.silent, flags := c.flags, data := c.data }
theorem sameC_refl (a : CI) : sameC a a = true := by simp [sameC]
/-- Same of the reference, at two commands that read alike. -/
theorem rsame_cmd (c d : Cmd) (A1 A2 A3 A4 : Option Addr) (k1 k2 k3 k4 : Nat) (l1 : c.set.length ≤ 1000000) (l2 : c.data.length ≤ 1000000) (l3 : d.set.length ≤ 1000000) (l4 : d.data.length ≤ 1000000) (h2 : c.data.length ≤ k2) (h4 : d.data.length ≤ k4) (w : World) (s1 : SlAt encR 2 w A1 c.set) (s2 : SlAt encB 1 w A2 c.data) (s3 : SlAt encR 2 w A3 d.set) (s4 : SlAt encB 1 w A4 d.data) :
    Calls Tryz.prog 12 #[.agg (cmdA c (.slice A1 c.set.length k1) (.slice A2 c.data.length k2)), .agg (cmdA d (.slice A3 d.set.length k3) (.slice A4 d.data.length k4))] w fun e w' => e = .returned (.bool (sameC (ciOf c) (ciOf d))) ∧ Below w.heap.size w w' :=
  rsame_any (ciOf c) (ciOf d) A1 A2 A3 A4 _ k1 _ k2 _ k3 _ k4 rfl rfl rfl rfl l1 l2 l3 l4 w s1 (ByAt.of_sl s2 h2) s3 (ByAt.of_sl s4 h4)

/-! What a parsed command may hold. -/
theorem appR_bd {c c' : Cmd} {l : List Tok} (h : appR c l = some c') : c'.set = c.set ∧ ∃ d ∈ l, c'.data = d.text := by
  rcases List.eq_nil_or_concat l with rfl | ⟨m, d, rfl⟩
  · simp [appR] at h
  rw [List.concat_eq_append] at *
  by_cases h6 : d.kind = 6
  rotate_left
  · rw [appR_bad c m d h6] at h; cases h
  rcases List.eq_nil_or_concat m with rfl | ⟨m, s, rfl⟩
  · rw [List.nil_append, appR_one c d h6] at h
    cases h
    exact ⟨rfl, d, by simp, rfl⟩
  rw [List.concat_eq_append] at *
  rw [appR_more c m s d h6] at h
  split at h
  · rw [Option.map_eq_some_iff] at h
    obtain ⟨g, _, rfl⟩ := h
    exact ⟨rfl, d, by simp, rfl⟩
  · cases h
theorem fetR_bd {c c' : Cmd} {l : List Tok} (h : fetR c l = some c') : c'.set = c.set ∧ c'.data = c.data := by
  rw [fetR_is, Option.map_eq_some_iff] at h
  obtain ⟨g, _, rfl⟩ := h
  exact ⟨rfl, rfl⟩
theorem stoR_bd {c c' : Cmd} {l : List Tok} (h : stoR c l = some c') : c'.set = c.set ∧ c'.data = c.data := by
  unfold stoR at h
  split at h
  · split at h
    · simp only [Option.bind_eq_some_iff, Option.map_eq_some_iff] at h
      obtain ⟨mo, _, g, _, rfl⟩ := h
      exact ⟨rfl, rfl⟩
    · cases h
  · cases h
theorem parseP_bd (x : List UInt8) (hx : x.length ≤ 9000) : (parseP x).1.length ≤ 9001 := by
  have h := split7_len 44 x
  unfold parseP
  split
  · simp; omega
  · simp
theorem bodyR_bd {tag : List UInt8} {l : List Tok} {c : Cmd} (h : bodyR tag l = some c) (hl : ∀ t ∈ l, t.text.length ≤ 9000) : c.set.length ≤ 9001 ∧ c.data.length ≤ 9000 := by
  rcases l with _ | ⟨t, r⟩
  · simp [bodyR] at h
  by_cases h4 : t.kind = 4
  rotate_left
  · rw [bodyR_no4 tag h4] at h; cases h
  by_cases h0 : kindL t.text = 0
  · rw [bodyR_zero tag h0] at h; cases h
  by_cases hle : kindL t.text ≤ 4
  · rw [bodyR_low tag h4 h0 hle] at h
    split at h
    · cases h; simp [cmd0]
    · cases h
  have hk : 4 < kindL t.text := by omega
  rcases r with _ | ⟨s, _ | ⟨m, q⟩⟩
  · rw [bodyR_short tag hk (by simp)] at h; cases h
  · rw [bodyR_short tag hk (by simp)] at h; cases h
  by_cases hs : s.kind = 1
  rotate_left
  · rw [bodyR_nos tag hk hs] at h; cases h
  by_cases h6 : kindL t.text ≤ 6
  · rw [bodyR_mbox tag h4 hk h6 hs] at h
    split at h
    · cases h
    split at h
    · split at h
      · cases h; simp [cmd0]
      · cases h
    rcases q with _ | ⟨z, d⟩
    · cases h
    · replace h : (if z.kind = 1 then appR { cmd0 tag with kind := kindL t.text, mbox := m.text } d else none) = some c := h
      split at h
      · obtain ⟨e1, x, hx, e2⟩ := appR_bd h
        rw [e1, e2]
        exact ⟨by simp [cmd0], hl x (by simp [hx])⟩
      · cases h
  · rw [bodyR_set tag h4 (by omega) hs] at h
    have hp := parseP_bd m.text (hl m (by simp))
    split at h
    · cases h
    rcases q with _ | ⟨z, d⟩
    · cases h
    · replace h : (if z.kind = 1 ∧ d ≠ [] then (if kindL t.text = 7 then fetR { cmd0 tag with kind := kindL t.text, set := (parseP m.text).1 } d else stoR { cmd0 tag with kind := kindL t.text, set := (parseP m.text).1 } d) else none) = some c := h
      split at h
      · split at h
        · obtain ⟨e1, e2⟩ := fetR_bd h
          rw [e1, e2]
          exact ⟨hp, by simp [cmd0]⟩
        · obtain ⟨e1, e2⟩ := stoR_bd h
          rw [e1, e2]
          exact ⟨hp, by simp [cmd0]⟩
      · cases h
theorem IsCmd.bd {l : List UInt8} {c : Cmd} {b : Bool} (h : IsCmd l c b) (_ : l.length ≤ 9000) : c.set.length ≤ 9001 ∧ c.data.length ≤ 9000 := by
  cases h with
  | noTag _ => simp [cmd0]
  | bad _ _ _ => simp [cmd0]
  | good e i o =>
    have hf := Fin.toks (by rw [List.length_drop]; omega) i
    obtain ⟨l', e', rfl, he0, _, hok, hl'⟩ := hf
    rw [body_is (fun x hx => ⟨(hok x hx).1, (hok x hx).2.1⟩) (fun x hx h => ((hok x hx).2.2.2 h).1) (fun x hx => by have := (hok x hx).2.2.1; omega) he0] at o
    exact bodyR_bd o (fun x hx => (hok x hx).2.2.1)

set_option maxRecDepth 100000 in
set_option maxHeartbeats 1000000 in
theorem commandParses_any (A : Option Addr) (c : Nat) (l : List UInt8) (_hl : l.length ≤ maxLen) (w : World) (henv : Env w) (hA : ByAt w.heap.size w A c l) :
    Calls Tryz.prog 3 #[.slice A l.length c] w fun e w' => e = .returned (.bool true) ∧ Below w.heap.size w w' := by
  have AL := Lib.hid (fun W (hW : Below w.heap.size w W) => alive7_any W (henv.below hW))
  by_cases h2 : 2000 < l.length
  · have d1 : decide ((2000 : Int) < (l.length : Int)) = true := by simp; omega
    have d2 : decide (2000 < l.length) = true := by simpa using h2
    clear hA h2
    generalize l.length = n at *
    go_enter Tryz.func3, Tryz.ntmps3
    go_wp2_with fail
    refine (AL.out w (Below.refl _ _)).mono ?_
    rintro e w1 ⟨rfl, hb⟩
    go_wp2_with fail
    go_ret
    exact ⟨rfl, hb⟩
  · have d1 : decide ((2000 : Int) < (l.length : Int)) = false := by simp; omega
    have d2 : decide (2000 < l.length) = false := by simpa using h2
    have PA := Lib.hid (command_any w.heap.size c A l (by omega) w henv hA)
    have RP := Lib.hid (fun W (hW : Below w.heap.size w W) => rcommand_any w.heap.size c A l (by omega) W (hA.grow hW))
    have HL : Hid (l.length ≤ 9000) := Lib.hid (by omega)
    clear hA h2 henv
    go_enter Tryz.func3, Tryz.ntmps3
    go_wp2_with fail
    refine PA.out.mono ?_
    rintro e w1 ⟨cm, ok, v, hi, rfl, ⟨⟨_, _, rfl, ⟨A1, k1, rfl, h1a, h1b⟩, A2, k2, rfl, h2a, h2b⟩, _⟩, hb1⟩
    have BD := Lib.hid (hi.bd HL.out)
    have hx := heap_alloc_new w1 (.cells (cmdA cm (.slice A1 cm.set.length k1) (.slice A2 cm.data.length k2)) 27)
    have b12 := below_al w1 (.cells (cmdA cm (.slice A1 cm.set.length k1) (.slice A2 cm.data.length k2)) 27)
    have HB2 := Lib.hid (hb1.trans (b12.mono hb1.size))
    have HX := Lib.hid hx
    have S1 := Lib.hid (h1b.below b12)
    have S2 := Lib.hid (h2b.below b12)
    have HI := Lib.hid hi
    have L2 := Lib.hid h2a
    have hs2 : w1.heap.size + 1 = _ := (World.size_alloc w1 (.cells (cmdA cm (.slice A1 cm.set.length k1) (.slice A2 cm.data.length k2)) 27)).symm
    unfold cmdA at *
    clear hx b12 h1b h2b hi hb1 PA h1a h2a
    go_upto_region 4 with (fail)
    generalize w1.alloc (.cells #[.string ⟨cm.tag.toArray⟩, .int .i64 (cm.kind : Int), .string ⟨cm.mbox.toArray⟩, .slice A1 cm.set.length k1, .int .i64 (cm.items : Int), .int .i64 (cm.mode : Int), .bool cm.silent, .int .u8 (cm.flags : Int), .slice A2 cm.data.length k2] 27) = w2 at *
    go_wp2_with fail
    refine (RP.out _ HB2.out).mono ?_
    rintro e w3 ⟨cm', ok', v, hi, rfl, ⟨⟨_, _, rfl, ⟨A3, k3, rfl, h1a, h1b⟩, A4, k4, rfl, h2a, h2b⟩, _⟩, hb3⟩
    obtain ⟨rfl, rfl⟩ := HI.out.det hi
    have b34 := below_al w3 (.cells #[.string ⟨cm.tag.toArray⟩, .int .i64 (cm.kind : Int), .string ⟨cm.mbox.toArray⟩, .slice A3 cm.set.length k3, .int .i64 (cm.items : Int), .int .i64 (cm.mode : Int), .bool cm.silent, .int .u8 (cm.flags : Int), .slice A4 cm.data.length k4] 27)
    have b24 := below_next hb3 b34
    have HX4 := Lib.hid ((b24.block w1.heap.size (by omega)).trans HX.out)
    have HY4 := Lib.hid (heap_alloc_new w3 (.cells #[.string ⟨cm.tag.toArray⟩, .int .i64 (cm.kind : Int), .string ⟨cm.mbox.toArray⟩, .slice A3 cm.set.length k3, .int .i64 (cm.items : Int), .int .i64 (cm.mode : Int), .bool cm.silent, .int .u8 (cm.flags : Int), .slice A4 cm.data.length k4] 27))
    have HB4 := Lib.hid (HB2.out.trans (b24.mono HB2.out.size))
    have S1 := Lib.hid (S1.out.below b24)
    have S2 := Lib.hid (S2.out.below b24)
    have S3 := Lib.hid (h1b.below b34)
    have S4 := Lib.hid (h2b.below b34)
    have L4 := Lib.hid h2a
    have hs3 := hb3.size
    have hs4 := World.size_alloc w3 (.cells #[.string ⟨cm.tag.toArray⟩, .int .i64 (cm.kind : Int), .string ⟨cm.mbox.toArray⟩, .slice A3 cm.set.length k3, .int .i64 (cm.items : Int), .int .i64 (cm.mode : Int), .bool cm.silent, .int .u8 (cm.flags : Int), .slice A4 cm.data.length k4] 27)
    unfold cmdA
    clear b24 b34 h1b h2b h1a h2a hi hb3 RP HX HB2
    go_upto_region 5 with (fail)
    generalize w3.alloc (.cells #[.string ⟨cm.tag.toArray⟩, .int .i64 (cm.kind : Int), .string ⟨cm.mbox.toArray⟩, .slice A3 cm.set.length k3, .int .i64 (cm.items : Int), .int .i64 (cm.mode : Int), .bool cm.silent, .int .u8 (cm.flags : Int), .slice A4 cm.data.length k4] 27) = w4 at *
    go_wp2_with fail
    refine (AL.out _ HB4.out).mono ?_
    rintro e w5 ⟨rfl, hb5⟩
    obtain ⟨x0, x1, x2, x3, x4, x5, x6, x7, x8⟩ := cells9 ((hb5.block w1.heap.size (by omega)).trans HX4.out)
    obtain ⟨y0, y1, y2, y3, y4, y5, y6, y7, y8⟩ := cells9 ((hb5.block w3.heap.size (by omega)).trans HY4.out)
    have SM := Lib.hid (rsame_cmd cm cm A1 A2 A3 A4 k1 k2 k3 k4 (by have := BD.out.1; omega) (by have := BD.out.2; omega) (by have := BD.out.1; omega) (by have := BD.out.2; omega) L2.out L4.out w5 (S1.out.below hb5) (S2.out.below hb5) (S3.out.below hb5) (S4.out.below hb5))
    rw [sameC_refl] at SM
    unfold cmdA at SM
    have HB5 := Lib.hid (HB4.out.trans (hb5.mono HB4.out.size))
    clear S1 S2 S3 S4 L2 L4 hb5 AL HX4 HY4 HB4 BD HI
    cases ok
    all_goals
      go_wp2_with fail
      refine SM.out.mono ?_
      rintro e w6 ⟨rfl, hb6⟩
      go_wp2_with fail
      go_ret
      exact ⟨rfl, HB5.out.trans (hb6.mono HB5.out.size)⟩
end Go.Proofs.YthfopimgdikpgaaGreatDoor

namespace Go.Proofs.YthfopimgdikpgaaGreatDoor
open Go.RowKit
open Go.Lib hiding intOf

theorem up_all (P : UInt8 → UInt8 → Bool) (h : ((List.range 256).all fun n => P (UInt8.ofNat n) (upB (UInt8.ofNat n))) = true) (c : UInt8) : P c (upB c) = true := by
  rw [List.all_eq_true] at h
  have := h c.toNat (List.mem_range.2 c.toNat_lt)
  rwa [UInt8.ofNat_toNat] at this
theorem up_kind (c : UInt8) : kindN (upB c).toNat = kindN c.toNat := by
  have := up_all (fun c d => kindN d.toNat == kindN c.toNat) (by decide +kernel) c
  simpa using this
theorem up_word (c : UInt8) : wordC (upB c) = wordC c := by
  have := up_all (fun c d => wordC d == wordC c) (by decide +kernel) c
  simpa using this
theorem up_tag (c : UInt8) : tagN (upB c).toNat = tagN c.toNat := by
  have := up_all (fun c d => tagN d.toNat == tagN c.toNat) (by decide +kernel) c
  simpa using this
theorem up_mb (c : UInt8) : mbN (upB c).toNat = mbN c.toNat := by
  have := up_all (fun c d => mbN d.toNat == mbN c.toNat) (by decide +kernel) c
  simpa using this
theorem up_32 (c : UInt8) : (upB c = 32) ↔ (c = 32) := by
  have := up_all (fun c d => decide (d = 32) == decide (c = 32)) (by decide +kernel) c
  simpa using this
theorem up_44 (c : UInt8) : (upB c = 44) ↔ (c = 44) := by
  have := up_all (fun c d => decide (d = 44) == decide (c = 44)) (by decide +kernel) c
  simpa using this
theorem up_58 (c : UInt8) : (upB c = 58) ↔ (c = 58) := by
  have := up_all (fun c d => decide (d = 58) == decide (c = 58)) (by decide +kernel) c
  simpa using this
theorem up_42 (c : UInt8) : (upB c = 42) ↔ (c = 42) := by
  have := up_all (fun c d => decide (d = 42) == decide (c = 42)) (by decide +kernel) c
  simpa using this
theorem up_dig (c : UInt8) : isDig (upB c) = true → upB c = c := by
  have := up_all (fun c d => !isDig d || decide (d = c)) (by decide +kernel) c
  intro h
  rw [h] at this
  simpa using this
theorem up_dig2 (c : UInt8) : isDig c = true → upB c = c := by
  have := up_all (fun c d => !isDig c || decide (d = c)) (by decide +kernel) c
  intro h
  rw [h] at this
  simpa using this

/-! A token at the front. -/
theorem oneR_up {r x : List UInt8} {k n : Nat} (h : oneR r = some (k, x, n)) (hk : k ≤ 4) : oneR (upL r) = some (k, upL x, n) := by
  unfold oneR at h ⊢
  have h0 : (upL r)[0]? = (r[0]?).map upB := by unfold upL; rw [List.getElem?_map]
  rw [h0]
  split at h
  · cases h
  · rename_i c hc
    rw [hc]
    simp only [Option.map_some, up_kind]
    split at h
    · cases h
    · rename_i n0
      rw [if_neg n0]
      split at h
      · rename_i n4
        rw [if_pos n4]
        have e : wordR (upL r) = upL (wordR r) := by
          unfold wordR upL
          rw [List.takeWhile_map]
          congr 2
          exact funext fun c => up_word c
        simp only [Option.some.injEq, Prod.mk.injEq] at h
        obtain ⟨rfl, rfl, rfl⟩ := h
        rw [e, upL_length]
      · rename_i n4
        rw [if_neg n4]
        split at h
        · simp at h
          obtain ⟨_, _, _, rfl, _⟩ := h
          omega
        · rename_i n5
          rw [if_neg n5]
          split at h
          · simp at h
            obtain ⟨_, _, _, rfl, _⟩ := h
            omega
          · rename_i n6
            rw [if_neg n6]
            simp only [Option.some.injEq, Prod.mk.injEq] at h
            obtain ⟨rfl, rfl, rfl⟩ := h
            rfl
def upT (t : Tok) : Tok := ⟨t.kind, upL t.text, t.at_⟩
theorem TRun.up {l : List UInt8} {a b : Nat} {ts : List Tok} (h : TRun l a ts b) (hk : ∀ t ∈ ts, t.kind ≤ 4) : TRun (upL l) a (ts.map upT) b := by
  induction h with
  | nil a => exact .nil a
  | @cons a n b k x ts h0 _ ih =>
    have h1 : oneR ((upL l).drop a) = some (k, upL x, n) := by
      have e : (upL l).drop a = upL (l.drop a) := by unfold upL; rw [List.map_drop]
      rw [e]
      exact oneR_up h0 (hk ⟨k, x, a⟩ (by simp))
    exact .cons h1 (ih fun t ht => hk t (by simp [ht]))
/-- The same tokens, seen from behind the first n bytes. -/
theorem TRun.back {l : List UInt8} {n a b : Nat} {ts : List Tok} (h : TRun l (n + a) ts (n + b)) : TRun (l.drop n) a (ts.map fun t => ⟨t.kind, t.text, t.at_ - n⟩) b := by
  generalize hA : n + a = A at h
  generalize hB : n + b = B at h
  induction h generalizing a with
  | nil A =>
    obtain rfl : a = b := by omega
    exact .nil _
  | @cons A m B k x ts h0 _ ih =>
    subst hA
    have h1 : oneR ((l.drop n).drop a) = some (k, x, m) := by rw [List.drop_drop]; exact h0
    have := TRun.cons h1 (ih (a := a + m) (by omega) hB)
    simpa using this

/-! The tag. -/
theorem tagL_up (l : List UInt8) : tagL (upL l) = upL (tagL l) := by
  unfold tagL upL
  rw [List.takeWhile_map]
  congr 2
  exact funext fun c => up_tag c
theorem tagO_up (l : List UInt8) : tagO (upL l) = (tagO l).map upL := by
  unfold tagO
  rw [tagL_up, upL_length]
  have e1 : (upL (tagL l) ≠ []) ↔ (tagL l ≠ []) := by unfold upL; simp
  have e2 : ((upL l)[(tagL l).length]? = some 32) ↔ (l[(tagL l).length]? = some 32) := by
    unfold upL
    rw [List.getElem?_map]
    cases l[(tagL l).length]? with
    | none => simp
    | some c => simp [up_32]
  by_cases h : tagL l ≠ [] ∧ l[(tagL l).length]? = some 32
  · rw [if_pos h, if_pos ⟨e1.2 h.1, e2.2 h.2⟩]; rfl
  · rw [if_neg h, if_neg (fun h' => h ⟨e1.1 h'.1, e2.1 h'.2⟩)]; rfl
/-- The tokens of a command with a tag: its tag, a space, what follows. -/
theorem tag_toks {l t : List UInt8} {us : List Tok} (ht : tagO l = some t) (h : TRun l 0 us l.length) : ∃ s1 s2 vs, us = s1 :: s2 :: vs ∧ TRun l (t.length + 1) vs l.length := by
  unfold tagO at ht
  split at ht
  · rename_i hc
    cases ht
    obtain ⟨hne, h32⟩ := hc
    have hpre : tagL l <+: l := List.takeWhile_prefix _
    have hlt : (tagL l).length < l.length := (List.getElem?_eq_some_iff.1 h32).1
    have hpos : 0 < (tagL l).length := List.length_pos_iff.2 hne
    have hword : wordR l = tagL l := by
      obtain ⟨q, hq⟩ := hpre
      have hq0 : q[0]? = some 32 := by
        have h33 : (tagL l ++ q)[(tagL l).length]? = some 32 := by rw [hq]; exact h32
        rw [List.getElem?_append_right (Nat.le_refl _), Nat.sub_self] at h33
        exact h33
      have hall : ∀ c ∈ tagL l, wordC c = true := by
        intro c hc
        have h1 : tagN c.toNat = true := List.all_eq_true.1 (List.all_takeWhile (l := l) (p := fun c : UInt8 => tagN c.toNat)) c hc
        unfold tagN at h1
        unfold wordC
        simp at h1 ⊢
        omega
      unfold wordR
      conv => lhs; rw [← hq]
      rw [List.takeWhile_append_of_pos hall]
      cases q with
      | nil => simp at hq0
      | cons d q =>
        obtain rfl : d = 32 := by simpa using hq0
        rw [List.takeWhile_cons, if_neg (by decide), List.append_nil]
    have h1 : oneR (l.drop 0) = some (4, tagL l, (tagL l).length) := by
      rw [List.drop_zero]
      unfold oneR
      have hw : ∃ d, l[0]? = some d ∧ wordC d = true := by
        have hm : wordR l ≠ [] := by rw [hword]; exact hne
        unfold wordR at hm
        cases hl : l with
        | nil => rw [hl] at hm; simp at hm
        | cons d q =>
          rw [hl, List.takeWhile_cons] at hm
          cases hd : wordC d with
          | true => exact ⟨d, rfl, hd⟩
          | false => rw [hd] at hm; simp at hm
      obtain ⟨d, h00, hw⟩ := hw
      rw [h00]
      have h4 := kindN_word.2 hw
      simp only [h4]
      rw [hword]
      rfl
    generalize hz : l.length = z at h
    cases h with
    | nil => omega
    | cons e1 r1 =>
      rw [h1] at e1
      simp only [Option.some.injEq, Prod.mk.injEq] at e1
      obtain ⟨_, _, rfl⟩ := e1
      have h2 : oneR (l.drop (tagL l).length) = some (1, [], 1) := by
        unfold oneR
        rw [List.getElem?_drop, Nat.add_zero, h32]
        rfl
      rw [Nat.zero_add] at r1
      cases r1 with
      | nil => omega
      | cons e2 r2 =>
        rw [h2] at e2
        simp only [Option.some.injEq, Prod.mk.injEq] at e2
        obtain ⟨_, _, rfl⟩ := e2
        exact ⟨_, _, _, rfl, r2⟩
  · cases ht

/-! Sets. -/
theorem num_dig {l : List UInt8} {u : Nat} (h : numOf l = some u) : ∀ c ∈ l, isDig c = true := by
  obtain ⟨_, hd⟩ := numOf_some h
  rw [← hd]
  exact fun c hc => List.all_eq_true.1 (dec_facts u).1 c hc
theorem up_same {l : List UInt8} (h : ∀ c ∈ l, upB c = c) : upL l = l := by
  unfold upL
  conv => rhs; rw [← List.map_id l]
  exact List.map_congr_left h
theorem numOf_up (l : List UInt8) : numOf (upL l) = numOf l := by
  cases h : numOf l with
  | some u => rw [up_same fun c hc => up_dig2 c (num_dig h c hc)]; exact h
  | none =>
    cases h2 : numOf (upL l) with
    | none => rfl
    | some v =>
      have : upL l = l := up_same fun c hc => up_dig c (num_dig h2 (upB c) (List.mem_map_of_mem hc))
      rw [this, h] at h2
      cases h2
theorem numP_up (l : List UInt8) : numP (upL l) = numP l := by
  have e : (upL l = [42]) ↔ (l = [42]) := by
    constructor
    · intro h
      unfold upL at h
      rcases l with _ | ⟨c, _ | ⟨d, l⟩⟩
      · cases h
      · simp [up_42] at h; rw [h]
      · simp at h
    · rintro rfl; decide
  unfold numP
  rw [numOf_up]
  by_cases h : l = [42]
  · rw [if_pos h, if_pos (e.2 h)]
  · rw [if_neg h, if_neg (fun h' => h (e.1 h'))]
theorem index_up (l : List UInt8) : Lib.indexByte (upL l) 58 = Lib.indexByte l 58 := by
  induction l with
  | nil => rfl
  | cons c l ih =>
    show Lib.indexByte (upB c :: upL l) 58 = _
    unfold Lib.indexByte
    rw [ih]
    have : (upB c == 58) = (c == 58) := by
      rw [Bool.eq_iff_iff]; simp [up_58]
    rw [this]
theorem rngP_up (l : List UInt8) : rngP (upL l) = rngP l := by
  have e1 : ∀ k, (upL l).take k = upL (l.take k) := fun k => by unfold upL; rw [List.map_take]
  have e2 : ∀ k, (upL l).drop k = upL (l.drop k) := fun k => by unfold upL; rw [List.map_drop]
  unfold rngP
  simp only [index_up, e1, e2, numP_up]
theorem split_up (l : List UInt8) : splitL 44 (upL l) = (splitL 44 l).map upL := by
  induction l with
  | nil => rfl
  | cons c l ih =>
    show splitL 44 (upB c :: upL l) = _
    unfold splitL
    rw [ih]
    by_cases h : c = 44
    · rw [if_pos ((up_44 c).2 h), if_pos h]; rfl
    · rw [if_neg (fun h' => h ((up_44 c).1 h')), if_neg h]
      cases splitL 44 l <;> rfl
theorem parseP_up (l : List UInt8) : parseP (upL l) = parseP l := by
  unfold parseP
  rw [split_up, List.all_map, List.map_map]
  have e1 : ((fun p => (rngP p).2) ∘ upL) = fun p => (rngP p).2 := funext fun p => by simp [rngP_up]
  have e2 : ((fun p => (rngP p).1) ∘ upL) = fun p => (rngP p).1 := funext fun p => by simp [rngP_up]
  rw [e1, e2]

/-! Names. -/
theorem kindL_up (l : List UInt8) : kindL (upL l) = kindL l := by unfold kindL; rw [upL_upL]
theorem itemL_up (l : List UInt8) : itemL (upL l) = itemL l := by unfold itemL; rw [upL_upL]
theorem flagL_up (l : List UInt8) : flagL (upL l) = flagL l := by unfold flagL; rw [upL_upL]
theorem modeL_up (l : List UInt8) : modeL (upL l) = modeL l := by unfold modeL; rw [upL_upL]
theorem itemsO_up (ps : List (List UInt8)) : itemsO (ps.map upL) = itemsO ps := by
  unfold itemsO orI
  rw [List.all_map, List.foldl_map]
  have e1 : ((fun p => itemL p != 0) ∘ upL) = fun p => itemL p != 0 := funext fun p => by simp [itemL_up]
  simp only [e1, itemL_up]
  simp
theorem namesO_up (ps : List (List UInt8)) : namesO (ps.map upL) = namesO ps := by
  unfold namesO allF orF
  rw [List.all_map, List.foldl_map]
  have e1 : ((fun p => flagL p != 0) ∘ upL) = fun p => flagL p != 0 := funext fun p => by simp [flagL_up]
  simp only [e1, flagL_up]
theorem flagsO_up (ps : List (List UInt8)) : flagsO (ps.map upL) = flagsO ps := by
  unfold flagsO
  rw [namesO_up]
  simp
theorem mb_up (t : Tok) : mboxR (upT t) = mboxR t := by
  unfold mboxR upT mbB upL
  simp only [List.all_map]
  have e1 : ((fun c : UInt8 => mbN c.toNat) ∘ upB) = fun c => mbN c.toNat := funext fun c => by simp [up_mb]
  rw [e1]
theorem wnames_up (l : List Tok) : wnames (l.map upT) = (wnames l).map (List.map upL) := by
  induction l using wnames.induct with
  | case1 => rfl
  | case2 t h => simp [wnames, upT, h]
  | case3 t h => simp [wnames, upT, h]
  | case4 t s r h ih =>
    simp only [List.map_cons] at ih ⊢
    unfold wnames
    rw [ih]
    have : (upT t).kind = 4 ∧ (upT s).kind = 1 := h
    rw [if_pos h, if_pos this, Option.map_map, Option.map_map]
    rfl
  | case5 t s r h =>
    simp only [List.map_cons]
    unfold wnames
    have : ¬ ((upT t).kind = 4 ∧ (upT s).kind = 1) := h
    rw [if_neg h, if_neg this]
    rfl
theorem lnames_up (l : List Tok) : lnames (l.map upT) = (lnames l).map (List.map upL) := by
  cases l with
  | nil => rfl
  | cons o q =>
    simp only [List.map_cons]
    unfold lnames
    simp only [List.getLast?_map]
    cases q.getLast? with
    | none => rfl
    | some c =>
      simp only [Option.map_some]
      have e : (q.map upT).dropLast = q.dropLast.map upT := List.map_dropLast.symm
      rw [e]
      have e3 : ((upT o).kind = 2 ∧ (upT c).kind = 3) ↔ (o.kind = 2 ∧ c.kind = 3) := Iff.rfl
      by_cases h : o.kind = 2 ∧ c.kind = 3
      · rw [if_pos h, if_pos (e3.2 h)]
        by_cases h2 : q.dropLast = []
        · rw [if_pos h2, if_pos (by rw [h2]; rfl)]; rfl
        · rw [if_neg h2, if_neg (fun h' => h2 (List.map_eq_nil_iff.1 h')), wnames_up]
      · rw [if_neg h, if_neg (fun h' => h (e3.1 h'))]; rfl
def upC (c : Cmd) : Cmd := { c with tag := upL c.tag, mbox := upL c.mbox, data := upL c.data }
theorem appR_up (c : Cmd) (l : List Tok) : appR (upC c) (l.map upT) = (appR c l).map upC := by
  unfold appR
  simp only [List.getLast?_map]
  have e : (l.map upT).dropLast = l.dropLast.map upT := List.map_dropLast.symm
  rw [e]
  cases l.getLast? with
  | none => rfl
  | some d =>
    simp only [Option.map_some]
    have k6 : (upT d).kind = d.kind := rfl
    rw [k6]
    by_cases h6 : d.kind ≠ 6
    · rw [if_pos h6, if_pos h6]; rfl
    · rw [if_neg h6, if_neg h6]
      by_cases h0 : l.dropLast = []
      · rw [if_pos h0, if_pos (by rw [h0]; rfl)]; rfl
      · rw [if_neg h0, if_neg (fun h' => h0 (List.map_eq_nil_iff.1 h'))]
        simp only [List.getLast?_map]
        have e2 : (l.dropLast.map upT).dropLast = l.dropLast.dropLast.map upT := List.map_dropLast.symm
        rw [e2]
        cases l.dropLast.getLast? with
        | none => rfl
        | some s =>
          simp only [Option.map_some, lnames_up]
          cases lnames l.dropLast.dropLast with
          | none => rfl
          | some ns =>
            simp only [Option.map_some, Option.bind_some, flagsO_up]
            have k1 : (upT s).kind = s.kind := rfl
            rw [k1]
            split
            · cases flagsO ns <;> rfl
            · rfl
theorem fetR_up (c : Cmd) (l : List Tok) : fetR (upC c) (l.map upT) = (fetR c l).map upC := by
  unfold fetR
  rw [List.length_map, wnames_up, lnames_up]
  split
  · cases wnames l with
    | none => rfl
    | some ns => simp only [Option.map_some, Option.bind_some, itemsO_up]; cases itemsO ns <;> rfl
  · cases lnames l with
    | none => rfl
    | some ns => simp only [Option.map_some, Option.bind_some, itemsO_up]; cases itemsO ns <;> rfl
theorem stoR_up (c : Cmd) (l : List Tok) : stoR (upC c) (l.map upT) = (stoR c l).map upC := by
  rcases l with _ | ⟨m, _ | ⟨s, q⟩⟩
  · rfl
  · rfl
  · simp only [List.map_cons]
    unfold stoR
    dsimp only
    have e3 : ((upT m).kind = 4 ∧ (upT s).kind = 1 ∧ q.map upT ≠ []) ↔ (m.kind = 4 ∧ s.kind = 1 ∧ q ≠ []) := by simp [upT]
    by_cases h : m.kind = 4 ∧ s.kind = 1 ∧ q ≠ []
    · rw [if_pos h, if_pos (e3.2 h)]
      have em : modeL (upT m).text = modeL m.text := modeL_up m.text
      rw [em, lnames_up, wnames_up]
      cases modeL m.text with
      | none => rfl
      | some mo =>
        simp only [Option.bind_some]
        have e1 : (Option.map (List.map upL) (lnames q)).bind flagsO = (lnames q).bind flagsO := by cases lnames q <;> simp [flagsO_up]
        have e2 : (Option.map (List.map upL) (wnames q)).bind flagsO = (wnames q).bind flagsO := by cases wnames q <;> simp [flagsO_up]
        rw [e1, e2]
        cases ((lnames q).bind flagsO).or ((wnames q).bind flagsO) <;> rfl
    · rw [if_neg h, if_neg (fun h' => h (e3.1 h'))]; rfl
theorem bodyR_up (tag : List UInt8) (l : List Tok) : bodyR (upL tag) (l.map upT) = (bodyR tag l).map upC := by
  cases l with
  | nil => rfl
  | cons t r =>
    simp only [List.map_cons]
    unfold bodyR
    dsimp only
    have ek : kindL (upT t).text = kindL t.text := kindL_up t.text
    have k4 : (upT t).kind = t.kind := rfl
    rw [ek, k4]
    by_cases h0 : t.kind ≠ 4 ∨ kindL t.text = 0
    · rw [if_pos h0, if_pos h0]; rfl
    rw [if_neg h0, if_neg h0]
    by_cases hle : kindL t.text ≤ 4
    · rw [if_pos hle, if_pos hle]
      by_cases hr : r = []
      · rw [if_pos hr, if_pos (by rw [hr]; rfl)]; rfl
      · rw [if_neg hr, if_neg (fun h' => hr (List.map_eq_nil_iff.1 h'))]; rfl
    rw [if_neg hle, if_neg hle]
    rcases r with _ | ⟨s, _ | ⟨m, q⟩⟩
    · rfl
    · rfl
    simp only [List.map_cons]
    have ks : (upT s).kind = s.kind := rfl
    rw [ks]
    by_cases hs : s.kind ≠ 1
    · rw [if_pos hs, if_pos hs]; rfl
    rw [if_neg hs, if_neg hs]
    by_cases h6 : kindL t.text ≤ 6
    · rw [if_pos h6, if_pos h6, mb_up]
      by_cases hm : mboxR m = false
      · rw [if_pos hm, if_pos hm]; rfl
      rw [if_neg hm, if_neg hm]
      by_cases h5 : kindL t.text = 5
      · rw [if_pos h5, if_pos h5]
        by_cases hq : q = []
        · rw [if_pos hq, if_pos (by rw [hq]; rfl)]; rfl
        · rw [if_neg hq, if_neg (fun h' => hq (List.map_eq_nil_iff.1 h'))]; rfl
      rw [if_neg h5, if_neg h5]
      cases q with
      | nil => rfl
      | cons z d =>
        simp only [List.map_cons]
        have kz : (upT z).kind = z.kind := rfl
        rw [kz]
        by_cases hz : z.kind = 1
        · rw [if_pos hz, if_pos hz]
          exact appR_up { cmd0 tag with kind := kindL t.text, mbox := m.text } d
        · rw [if_neg hz, if_neg hz]; rfl
    · rw [if_neg h6, if_neg h6]
      have km : (upT m).kind = m.kind := rfl
      have ep : parseP (upT m).text = parseP m.text := parseP_up m.text
      rw [km, ep]
      by_cases hm : m.kind ≠ 4 ∨ (parseP m.text).2 = false
      · rw [if_pos hm, if_pos hm]; rfl
      rw [if_neg hm, if_neg hm]
      cases q with
      | nil => rfl
      | cons z d =>
        simp only [List.map_cons]
        have e3 : ((upT z).kind = 1 ∧ d.map upT ≠ []) ↔ (z.kind = 1 ∧ d ≠ []) := by simp [upT]
        by_cases hz : z.kind = 1 ∧ d ≠ []
        · rw [if_pos hz, if_pos (e3.2 hz)]
          by_cases h7 : kindL t.text = 7
          · rw [if_pos h7, if_pos h7]
            exact fetR_up { cmd0 tag with kind := kindL t.text, set := (parseP m.text).1 } d
          · rw [if_neg h7, if_neg h7]
            exact stoR_up { cmd0 tag with kind := kindL t.text, set := (parseP m.text).1 } d
        · rw [if_neg hz, if_neg (fun h' => hz (e3.1 h'))]; rfl
end Go.Proofs.YthfopimgdikpgaaGreatDoor

namespace Go.Proofs.YthfopimgdikpgaaGreatDoor
open Go.RowKit

theorem appR_none {c : Cmd} {l : List Tok} (h : ∀ t ∈ l, t.kind ≤ 4) : appR c l = none := by
  rcases List.eq_nil_or_concat l with rfl | ⟨m, d, rfl⟩
  · simp [appR]
  · rw [List.concat_eq_append]
    exact appR_bad c m d (by have := h d (by simp); omega)
theorem stoR_shape {c c' : Cmd} {l : List Tok} (h : stoR c l = some c') : ∃ mo si g, c' = { c with mode := mo, silent := si, flags := g } := by
  unfold stoR at h
  split at h
  · split at h
    · simp only [Option.bind_eq_some_iff, Option.map_eq_some_iff] at h
      obtain ⟨mo, _, g, _, rfl⟩ := h
      exact ⟨mo.1, mo.2, g, rfl⟩
    · cases h
  · cases h
theorem bodyR_data {tag : List UInt8} {l : List Tok} {c : Cmd} (h : bodyR tag l = some c) (hl : ∀ t ∈ l, t.kind ≤ 4) (hx : ∀ t ∈ l, t.text.length ≤ 9000) : c.data = [] ∧ c.tag = tag ∧ c.mbox.length ≤ 9000 := by
  rcases l with _ | ⟨t, r⟩
  · simp [bodyR] at h
  by_cases h4 : t.kind = 4
  rotate_left
  · rw [bodyR_no4 tag h4] at h; cases h
  by_cases h0 : kindL t.text = 0
  · rw [bodyR_zero tag h0] at h; cases h
  by_cases hle : kindL t.text ≤ 4
  · rw [bodyR_low tag h4 h0 hle] at h
    split at h
    · cases h; exact ⟨rfl, rfl, Nat.zero_le _⟩
    · cases h
  have hk : 4 < kindL t.text := by omega
  rcases r with _ | ⟨s, _ | ⟨m, q⟩⟩
  · rw [bodyR_short tag hk (by simp)] at h; cases h
  · rw [bodyR_short tag hk (by simp)] at h; cases h
  by_cases hs : s.kind = 1
  rotate_left
  · rw [bodyR_nos tag hk hs] at h; cases h
  by_cases h6 : kindL t.text ≤ 6
  · rw [bodyR_mbox tag h4 hk h6 hs] at h
    split at h
    · cases h
    split at h
    · split at h
      · cases h; exact ⟨rfl, rfl, hx m (by simp)⟩
      · cases h
    rcases q with _ | ⟨z, d⟩
    · cases h
    · replace h : (if z.kind = 1 then appR { cmd0 tag with kind := kindL t.text, mbox := m.text } d else none) = some c := h
      rw [appR_none (fun x hxx => hl x (by simp [hxx]))] at h
      split at h <;> cases h
  · rw [bodyR_set tag h4 (by omega) hs] at h
    split at h
    · cases h
    rcases q with _ | ⟨z, d⟩
    · cases h
    · replace h : (if z.kind = 1 ∧ d ≠ [] then (if kindL t.text = 7 then fetR { cmd0 tag with kind := kindL t.text, set := (parseP m.text).1 } d else stoR { cmd0 tag with kind := kindL t.text, set := (parseP m.text).1 } d) else none) = some c := h
      split at h
      · split at h
        · rw [fetR_is, Option.map_eq_some_iff] at h
          obtain ⟨i, _, rfl⟩ := h
          exact ⟨rfl, rfl, Nat.zero_le _⟩
        · obtain ⟨mo, si, g, rfl⟩ := stoR_shape h
          exact ⟨rfl, rfl, Nat.zero_le _⟩
      · cases h
/-- A command with capital letters in the place of small ones. -/
theorem IsCmd.up {l : List UInt8} {c : Cmd} {b : Bool} {us : List Tok} (h : IsCmd l c b) (hl : l.length ≤ 9000) (hu : TRun l 0 us l.length) (hk : ∀ t ∈ us, t.kind ≤ 4) :
    IsCmd (upL l) { c with tag := upL c.tag, mbox := upL c.mbox } b ∧ c.data = [] ∧ c.tag.length ≤ 9000 ∧ c.mbox.length ≤ 9000 := by
  have toks : ∀ t, tagO l = some t → ∃ vs, TRun (l.drop (t.length + 1)) 0 vs (l.drop (t.length + 1)).length ∧ ∀ v ∈ vs, v.kind ≤ 4 := by
    intro t ht
    obtain ⟨s1, s2, vs, rfl, hv⟩ := tag_toks ht hu
    have hle := tag_len ht
    have hv2 : TRun l (t.length + 1 + 0) vs (t.length + 1 + (l.length - (t.length + 1))) := by
      rw [Nat.add_zero, Nat.add_sub_cancel' hle]; exact hv
    refine ⟨_, by rw [List.length_drop]; exact hv2.back, fun v hv => ?_⟩
    obtain ⟨x, hx, rfl⟩ := List.mem_map.1 hv
    exact hk x (by simp [hx])
  have key : ∀ t vs, tagO l = some t → TRun (l.drop (t.length + 1)) 0 vs (l.drop (t.length + 1)).length → (∀ v ∈ vs, v.kind ≤ 4) →
      (tagO (upL l) = some (upL t) ∧ IsToks ((upL l).drop ((upL t).length + 1)) (vs.map upT ++ [⟨0, [], (l.drop (t.length + 1)).length⟩]) (-1) ∧
        bodyO t (vs ++ [⟨0, [], (l.drop (t.length + 1)).length⟩]) = bodyR t vs ∧ bodyO (upL t) (vs.map upT ++ [⟨0, [], (l.drop (t.length + 1)).length⟩]) = (bodyR t vs).map upC) := by
    intro t vs ht hv hv4
    have h1 := hv.each (Nat.zero_le _)
    have h2 := hv.words
    have hlen : (l.drop (t.length + 1)).length ≤ 9000 := by rw [List.length_drop]; omega
    refine ⟨by rw [tagO_up, ht]; rfl, ?_, ?_, ?_⟩
    · have e : (upL l).drop ((upL t).length + 1) = upL (l.drop (t.length + 1)) := by rw [upL_length]; unfold upL; rw [List.map_drop]
      rw [e]
      refine .inl ⟨vs.map upT, ?_, ?_, rfl⟩
      · have := hv.up hv4
        rw [upL_length]
        exact this
      · rw [upL_length]
    · exact body_is (fun x hx => ⟨(h1 x hx).1, (h1 x hx).2.1⟩) (fun x hx h => (h2 x hx h).1) (fun x hx => by have := (h1 x hx).2.2.1; omega) rfl t
    · rw [← bodyR_up]
      refine body_is (fun x hx => ?_) (fun x hx h => ?_) (fun x hx => ?_) rfl (upL t)
      · obtain ⟨y, hy, rfl⟩ := List.mem_map.1 hx
        exact ⟨(h1 y hy).1, (h1 y hy).2.1⟩
      · obtain ⟨y, hy, rfl⟩ := List.mem_map.1 hx
        intro h0
        exact (h2 y hy h).1 (List.map_eq_nil_iff.1 h0)
      · obtain ⟨y, hy, rfl⟩ := List.mem_map.1 hx
        have := (h1 y hy).2.2.1
        show (upL y.text).length ≤ _
        rw [upL_length]
        omega
  cases h with
  | noTag e => exact ⟨.noTag (by rw [tagO_up, e]; rfl), rfl, Nat.zero_le _, Nat.zero_le _⟩
  | @bad t ts x e i o =>
    obtain ⟨vs, hv, hv4⟩ := toks t e
    obtain ⟨k1, k2, k3, k4⟩ := key t vs e hv hv4
    obtain ⟨rfl, rfl⟩ := i.det (.inl ⟨vs, hv, rfl, rfl⟩)
    have o2 : bodyO t (vs ++ [⟨0, [], (l.drop (t.length + 1)).length⟩]) = none := by
      rcases o with o | o
      · exact absurd rfl o
      · exact o
    rw [k3] at o2
    exact ⟨.bad k1 k2 (.inr (k4.trans (by rw [o2]; rfl))), rfl, by have := tag_len e; show t.length ≤ _; omega, Nat.zero_le _⟩
  | @good t ts c e i o =>
    obtain ⟨vs, hv, hv4⟩ := toks t e
    obtain ⟨k1, k2, k3, k4⟩ := key t vs e hv hv4
    obtain ⟨rfl, _⟩ := i.det (.inl ⟨vs, hv, rfl, rfl⟩)
    rw [k3] at o
    obtain ⟨hd, ht, hm⟩ := bodyR_data o hv4 (fun x hx => by have := (hv.each (Nat.zero_le _) x hx).2.2.1; rw [List.length_drop] at this; omega)
    refine ⟨.good k1 k2 ?_, hd, by rw [ht]; have := tag_len e; omega, hm⟩
    rw [k4, o]
    show some (upC c) = _
    unfold upC
    rw [hd]
    rfl
end Go.Proofs.YthfopimgdikpgaaGreatDoor

namespace Go.Proofs.YthfopimgdikpgaaGreatDoor
open Go.RowKit

noncomputable def ccOps : Array Oper := ((Tryz.f7.body).bind (dfind 12)).getD #[]
theorem cc_size : ccOps.size = 10 := by kernel_rfl
theorem cc_o0 : ∃ o, ccOps[0]? = some o ∧ o.guard = none ∧ o.op = .fieldAddr 27 (.tmp 7) 0 := ⟨_, by rfl, by rfl, by rfl⟩
theorem cc_o1 : ∃ o, ccOps[1]? = some o ∧ o.guard = none ∧ o.op = .load 9 (.tmp 52) := ⟨_, by rfl, by rfl, by rfl⟩
theorem cc_o2 : ∃ o, ccOps[2]? = some o ∧ o.guard = none ∧ o.op = .call { callee := .value (.func 24), args := #[(.tmp 53)], argTypes := #[9] } := ⟨_, by rfl, by rfl, by rfl⟩
theorem cc_o3 : ∃ o, ccOps[3]? = some o ∧ o.guard = none ∧ o.op = .fieldAddr 27 (.tmp 7) 2 := ⟨_, by rfl, by rfl, by rfl⟩
theorem cc_o4 : ∃ o, ccOps[4]? = some o ∧ o.guard = none ∧ o.op = .load 9 (.tmp 55) := ⟨_, by rfl, by rfl, by rfl⟩
theorem cc_o5 : ∃ o, ccOps[5]? = some o ∧ o.guard = none ∧ o.op = .call { callee := .value (.func 24), args := #[(.tmp 56)], argTypes := #[9] } := ⟨_, by rfl, by rfl, by rfl⟩
theorem cc_o6 : ∃ o, ccOps[6]? = some o ∧ o.guard = none ∧ o.op = .fieldAddr 27 (.tmp 7) 0 := ⟨_, by rfl, by rfl, by rfl⟩
theorem cc_o7 : ∃ o, ccOps[7]? = some o ∧ o.guard = none ∧ o.op = .store 9 (.tmp 58) (.tmp 54) := ⟨_, by rfl, by rfl, by rfl⟩
theorem cc_o8 : ∃ o, ccOps[8]? = some o ∧ o.guard = none ∧ o.op = .fieldAddr 27 (.tmp 7) 2 := ⟨_, by rfl, by rfl, by rfl⟩
theorem cc_o9 : ∃ o, ccOps[9]? = some o ∧ o.guard = none ∧ o.op = .store 9 (.tmp 59) (.tmp 57) := ⟨_, by rfl, by rfl, by rfl⟩
theorem cc_fit : dfits ccOps (dahead ccOps) 71 = true := by kernel_rfl
theorem newV_at7 {n : Nat} {c : Cmd} {sv dv : Value} (h : NewV n (.agg (cmdA c sv dv))) : NewS n sv ∧ NewS n dv := by
  obtain ⟨c', sv', dv', he, h1, h2⟩ := h
  have he' : cmdA c sv dv = cmdA c' sv' dv' := by injection he
  have e1 : sv = sv' := by
    have := congrArg (fun a => a[3]?) he'
    simpa [cmdA] using this
  have e2 : dv = dv' := by
    have := congrArg (fun a => a[8]?) he'
    simpa [cmdA] using this
  subst e1 e2
  exact ⟨h1, h2⟩
def ccV (g : Nat) (s0 u0 s2 u2 : ByteArray) : Nat → Value
  | 0 => .pointer (some ⟨g, 0, none⟩)
  | 1 => .string s0
  | 2 => .string u0
  | 3 => .pointer (some ⟨g, 2, none⟩)
  | 4 => .string s2
  | 5 => .string u2
  | 6 => .pointer (some ⟨g, 0, none⟩)
  | 8 => .pointer (some ⟨g, 2, none⟩)
  | _ => undef
theorem cc_put (g : Nat) (s0 u0 s2 u2 : ByteArray) (T : Array Value) : dputN ccOps (ccV g s0 u0 s2 u2) T 10 = (((((((T.setIfInBounds 52 (.pointer (some ⟨g, 0, none⟩))).setIfInBounds 53 (.string s0)).setIfInBounds 54 (.string u0)).setIfInBounds 55 (.pointer (some ⟨g, 2, none⟩))).setIfInBounds 56 (.string s2)).setIfInBounds 57 (.string u2)).setIfInBounds 58 (.pointer (some ⟨g, 0, none⟩))).setIfInBounds 59 (.pointer (some ⟨g, 2, none⟩)) := by kernel_rfl
/-- The command's cells, when one, the other or both of its strings have been replaced. -/
def ccC (s0 u0 s2 u2 : ByteArray) (a1 a3 a4 a5 a6 a7 a8 : Value) (b0 b2 : Bool) : Array Value := #[.string (if b0 then u0 else s0), a1, .string (if b2 then u2 else s2), a3, a4, a5, a6, a7, a8]
def CcS (g : Nat) (W0 : World) (s0 u0 s2 u2 : ByteArray) (a1 a3 a4 a5 a6 a7 a8 : Value) (b0 b2 : Bool) (W : World) : Prop :=
  W.heap[g]? = some (.cells (ccC s0 u0 s2 u2 a1 a3 a4 a5 a6 a7 a8 b0 b2) 27 (0, 0)) ∧ W0.grownBy W (some g)

set_option maxRecDepth 100000 in
set_option maxHeartbeats 1000000 in
theorem cc_step (g : Nat) (W0 : World) (s0 u0 s2 u2 : ByteArray) (a1 a3 a4 a5 a6 a7 a8 : Value) (T : Array Value) (hT7 : T.getD 7 undef = .pointer (some ⟨g, 0, none⟩))
    (U0 : ∀ W, Calls Tryz.prog 24 #[.string s0] W fun e w' => e = .returned (.string u0) ∧ Below W.heap.size W w')
    (U2 : ∀ W, Calls Tryz.prog 24 #[.string s2] W fun e w' => e = .returned (.string u2) ∧ Below W.heap.size W w') :
    ∀ i o, ccOps[i]? = some o → ∀ (m : Nat → Bool) w', (∀ j, m j = true → ∀ k ∈ dal (dahead ccOps) j, m k = true) → (∀ k ∈ dal (dahead ccOps) i, m k = true) → m i = false → CcS g W0 s0 u0 s2 u2 a1 a3 a4 a5 a6 a7 a8 (m 7) (m 9) w' → DStep Tryz.prog o (dval ccOps (dahead ccOps) (ccV g s0 u0 s2 u2) T i) (ccV g s0 u0 s2 u2) i (CcS g W0 s0 u0 s2 u2 a1 a3 a4 a5 a6 a7 a8 (dset m i 7) (dset m i 9)) (fun _ _ => False) w' := by
  intro i o ho m w' hcl _ hmi hS
  have hi : i < 10 := by rw [← cc_size]; exact (Array.getElem?_eq_some_iff.1 ho).1
  have hno : ∀ j k, (dal (dahead ccOps) j).contains k = true → m k = false → m j = false := by
    intro j k hjk hk
    cases hj : m j with
    | false => rfl
    | true =>
      have := hcl j hj k (by simpa using hjk)
      rw [hk] at this
      cases this
  have ds : ∀ i, i ≠ 7 → i ≠ 9 → dset m i 7 = m 7 ∧ dset m i 9 = m 9 := fun i h1 h2 => ⟨if_neg (fun e => h1 e.symm), if_neg (fun e => h2 e.symm)⟩
  have keep : ∀ i, i ≠ 7 → i ≠ 9 → CcS g W0 s0 u0 s2 u2 a1 a3 a4 a5 a6 a7 a8 (dset m i 7) (dset m i 9) w' := fun i h1 h2 => by
    rw [(ds i h1 h2).1, (ds i h1 h2).2]; exact hS
  have kept : ∀ {w2}, Below w'.heap.size w' w2 → ∀ i, i ≠ 7 → i ≠ 9 → CcS g W0 s0 u0 s2 u2 a1 a3 a4 a5 a6 a7 a8 (dset m i 7) (dset m i 9) w2 := fun {w2} hb i h1 h2 => by
    rw [(ds i h1 h2).1, (ds i h1 h2).2]
    exact ⟨(hb.block g (Array.getElem?_eq_some_iff.1 hS.1).1).trans hS.1, hS.2.trans (grown_of_below hb)⟩
  have store0 : ∀ {b}, CcS g W0 s0 u0 s2 u2 a1 a3 a4 a5 a6 a7 a8 false b w' → CcS g W0 s0 u0 s2 u2 a1 a3 a4 a5 a6 a7 a8 (dset m 7 7) b (w'.setCell ⟨g, 0, none⟩ (.string u0)) := fun {b} h =>
    ⟨(Joins.block_setCell h.1 _).trans (by cases b <;> rfl), h.2.trans (grown_setCell _ _ _ _)⟩
  have store2 : ∀ {b}, CcS g W0 s0 u0 s2 u2 a1 a3 a4 a5 a6 a7 a8 b false w' → CcS g W0 s0 u0 s2 u2 a1 a3 a4 a5 a6 a7 a8 b (dset m 9 9) (w'.setCell ⟨g, 2, none⟩ (.string u2)) := fun {b} h =>
    ⟨(Joins.block_setCell h.1 _).trans (by cases b <;> rfl), h.2.trans (grown_setCell _ _ _ _)⟩
  rcases i with _ | _ | _ | _ | _ | _ | _ | _ | _ | _ | i
  · obtain ⟨o', ho', hg, hop⟩ := cc_o0
    obtain rfl := Option.some.inj (ho'.symm.trans ho)
    have r7 : dval ccOps (dahead ccOps) (ccV g s0 u0 s2 u2) T 0 (.tmp 7) = .pointer (some ⟨g, 0, none⟩) := (show _ = T.getD 7 undef by kernel_rfl).trans hT7
    exact dstep_value (by simp [dwant, hg]) (show (execOp _ _).run Tryz.prog w' = .ok (.value (.pointer (some ⟨g, 0, none⟩))) w' by simp [execOp, hop, go_sem, r7]) (keep 0 (by decide) (by decide))
  · obtain ⟨o', ho', hg, hop⟩ := cc_o1
    obtain rfl := Option.some.inj (ho'.symm.trans ho)
    have r52 : dval ccOps (dahead ccOps) (ccV g s0 u0 s2 u2) T 1 (.tmp 52) = .pointer (some ⟨g, 0, none⟩) := by kernel_rfl
    have m7 : m 7 = false := hno 7 1 (by kernel_rfl) hmi
    rw [m7] at hS
    have c0 : w'.cell? ⟨g, 0, none⟩ = some (.string s0) := cell_of_row _ _ 0 _ _ _ hS.1
    exact dstep_value (by simp [dwant, hg]) (show (execOp _ _).run Tryz.prog w' = .ok (.value (.string s0)) w' by simp [execOp, hop, go_sem, r52, c0]) (keep 1 (by decide) (by decide))
  · obtain ⟨o', ho', hg, hop⟩ := cc_o2
    obtain rfl := Option.some.inj (ho'.symm.trans ho)
    have r53 : dval ccOps (dahead ccOps) (ccV g s0 u0 s2 u2) T 2 (.tmp 53) = .string s0 := by kernel_rfl
    exact dstep_enter (by simp [dwant, hg]) (dexec_call hop rfl (by simp [go_sem, r53])) ((U0 w').mono fun e w2 h => ⟨h.1, (kept h.2) 2 (by decide) (by decide)⟩)
  · obtain ⟨o', ho', hg, hop⟩ := cc_o3
    obtain rfl := Option.some.inj (ho'.symm.trans ho)
    have r7 : dval ccOps (dahead ccOps) (ccV g s0 u0 s2 u2) T 3 (.tmp 7) = .pointer (some ⟨g, 0, none⟩) := (show _ = T.getD 7 undef by kernel_rfl).trans hT7
    exact dstep_value (by simp [dwant, hg]) (show (execOp _ _).run Tryz.prog w' = .ok (.value (.pointer (some ⟨g, 2, none⟩))) w' by simp [execOp, hop, go_sem, r7]) (keep 3 (by decide) (by decide))
  · obtain ⟨o', ho', hg, hop⟩ := cc_o4
    obtain rfl := Option.some.inj (ho'.symm.trans ho)
    have r55 : dval ccOps (dahead ccOps) (ccV g s0 u0 s2 u2) T 4 (.tmp 55) = .pointer (some ⟨g, 2, none⟩) := by kernel_rfl
    have m9 : m 9 = false := hno 9 4 (by kernel_rfl) hmi
    rw [m9] at hS
    have c0 : w'.cell? ⟨g, 2, none⟩ = some (.string s2) := cell_of_row _ _ 2 _ _ _ hS.1
    exact dstep_value (by simp [dwant, hg]) (show (execOp _ _).run Tryz.prog w' = .ok (.value (.string s2)) w' by simp [execOp, hop, go_sem, r55, c0]) (keep 4 (by decide) (by decide))
  · obtain ⟨o', ho', hg, hop⟩ := cc_o5
    obtain rfl := Option.some.inj (ho'.symm.trans ho)
    have r56 : dval ccOps (dahead ccOps) (ccV g s0 u0 s2 u2) T 5 (.tmp 56) = .string s2 := by kernel_rfl
    exact dstep_enter (by simp [dwant, hg]) (dexec_call hop rfl (by simp [go_sem, r56])) ((U2 w').mono fun e w2 h => ⟨h.1, (kept h.2) 5 (by decide) (by decide)⟩)
  · obtain ⟨o', ho', hg, hop⟩ := cc_o6
    obtain rfl := Option.some.inj (ho'.symm.trans ho)
    have r7 : dval ccOps (dahead ccOps) (ccV g s0 u0 s2 u2) T 6 (.tmp 7) = .pointer (some ⟨g, 0, none⟩) := (show _ = T.getD 7 undef by kernel_rfl).trans hT7
    exact dstep_value (by simp [dwant, hg]) (show (execOp _ _).run Tryz.prog w' = .ok (.value (.pointer (some ⟨g, 0, none⟩))) w' by simp [execOp, hop, go_sem, r7]) (keep 6 (by decide) (by decide))
  · obtain ⟨o', ho', hg, hop⟩ := cc_o7
    obtain rfl := Option.some.inj (ho'.symm.trans ho)
    have r58 : dval ccOps (dahead ccOps) (ccV g s0 u0 s2 u2) T 7 (.tmp 58) = .pointer (some ⟨g, 0, none⟩) := by kernel_rfl
    have r54 : dval ccOps (dahead ccOps) (ccV g s0 u0 s2 u2) T 7 (.tmp 54) = .string u0 := by kernel_rfl
    rw [hmi] at hS
    have c0 : w'.cell? ⟨g, 0, none⟩ = some (.string s0) := cell_of_row _ _ 0 _ _ _ hS.1
    have f0 := Joins.unfrozen_of_block hS.1 0
    exact dstep_skip (by simp [dwant, hg]) (w' := w'.setCell ⟨g, 0, none⟩ (.string u0)) (by simp [execOp, hop, go_sem, r58, r54, c0, f0]) rfl (store0 hS)
  · obtain ⟨o', ho', hg, hop⟩ := cc_o8
    obtain rfl := Option.some.inj (ho'.symm.trans ho)
    have r7 : dval ccOps (dahead ccOps) (ccV g s0 u0 s2 u2) T 8 (.tmp 7) = .pointer (some ⟨g, 0, none⟩) := (show _ = T.getD 7 undef by kernel_rfl).trans hT7
    exact dstep_value (by simp [dwant, hg]) (show (execOp _ _).run Tryz.prog w' = .ok (.value (.pointer (some ⟨g, 2, none⟩))) w' by simp [execOp, hop, go_sem, r7]) (keep 8 (by decide) (by decide))
  · obtain ⟨o', ho', hg, hop⟩ := cc_o9
    obtain rfl := Option.some.inj (ho'.symm.trans ho)
    have r59 : dval ccOps (dahead ccOps) (ccV g s0 u0 s2 u2) T 9 (.tmp 59) = .pointer (some ⟨g, 2, none⟩) := by kernel_rfl
    have r57 : dval ccOps (dahead ccOps) (ccV g s0 u0 s2 u2) T 9 (.tmp 57) = .string u2 := by kernel_rfl
    rw [hmi] at hS
    have c0 : w'.cell? ⟨g, 2, none⟩ = some (.string s2) := cell_of_row _ _ 2 _ _ _ hS.1
    have f0 := Joins.unfrozen_of_block hS.1 2
    exact dstep_skip (by simp [dwant, hg]) (w' := w'.setCell ⟨g, 2, none⟩ (.string u2)) (by simp [execOp, hop, go_sem, r59, r57, c0, f0]) rfl (store2 hS)
  · omega

set_option maxRecDepth 100000 in
set_option maxHeartbeats 1000000 in
/-- More than 2000 bytes. -/
theorem commandCases_long (A : Option Addr) (c : Nat) (l : List UInt8) (w : World) (henv : Env w) (hA : ByAt w.heap.size w A c l) (h2 : 2000 < l.length) :
    Calls Tryz.prog 7 #[.slice A l.length c] w fun e w' => e = .returned (.bool true) ∧ Below w.heap.size w w' := by
  have AL := Lib.hid (fun W (hW : Below w.heap.size w W) => alive7_any W (henv.below hW))
  have hle := hA.le
  have ht : (l.take 2000).length = 2000 := by rw [List.length_take]; omega
  have TK := Lib.hid (refTokens_any w.heap.size c A (l.take 2000) (by omega) w (hA.take (by omega)))
  rw [ht] at TK
  have hse := fun x lo hi mx W => sliceAt_eq x lo hi mx W
  have hsl : ∀ W, (Instr.slice 22 (.slice A l.length c) none (some (.int .i64 2000)) none).run Tryz.prog W = .ok (.slice A 2000 c) W := fun W => slice_h A l.length c 2000 (by omega) W
  have d1 : decide ((2000 : Int) < (l.length : Int)) = true := by simp; omega
  have d2 : decide (2000 < l.length) = true := by simpa using h2
  have hm : min (l.length : Int) 2000 = 2000 := by omega
  clear henv hA h2 hle ht
  generalize l.length = n at *
  go_enter Tryz.func7, Tryz.ntmps7
  go_wp2_with fail
  refine TK.out.mono ?_
  rintro e w1 ⟨v, ts, x, rfl, hO, _, hb1⟩
  obtain ⟨A', k', rfl⟩ := own_any hO
  have HB1 := Lib.hid hb1
  clear hO TK hse hsl hm hb1
  go_wp2_with fail
  refine (AL.out _ HB1.out).mono ?_
  rintro e w2 ⟨rfl, hb2⟩
  go_wp2_with fail
  go_ret
  exact ⟨rfl, below_next HB1.out hb2⟩

theorem take_kinds {ts : List Tok} {k : Nat} (h : k < ts.length) (hk : ∀ t ∈ ts.take k, t.kind ≤ 4) (h4 : ts[k].kind ≤ 4) : ∀ t ∈ ts.take (k + 1), t.kind ≤ 4 := by
  rw [List.take_succ_eq_append_getElem h]
  intro t ht
  rcases List.mem_append.1 ht with ht | ht
  · exact hk t ht
  · obtain rfl := List.mem_singleton.1 ht
    exact h4

set_option maxRecDepth 100000 in
set_option maxHeartbeats 2000000 in
theorem commandCases_any (A : Option Addr) (c : Nat) (l : List UInt8) (_hl : l.length ≤ maxLen) (w : World) (henv : Env w) (hA : ByAt w.heap.size w A c l) :
    Calls Tryz.prog 7 #[.slice A l.length c] w fun e w' => e = .returned (.bool true) ∧ Below w.heap.size w w' := by
  by_cases h2 : 2000 < l.length
  · exact commandCases_long A c l w henv hA h2
  have AL := Lib.hid (fun W (hW : Below w.heap.size w W) => alive7_any W (henv.below hW))
  have hle := hA.le
  have TK := Lib.hid (refTokens_any w.heap.size c A l (by omega) w hA)
  have RP := Lib.hid (fun W (hW : Below w.heap.size w W) => rcommand_any w.heap.size c A l (by omega) W (hA.grow hW))
  have CV : Hid (∀ W, Below w.heap.size w W → (convert 22 9 (.slice A l.length c)).run Tryz.prog W = .ok (.string ⟨l.toArray⟩) W) := Lib.hid (fun W hW => convS _ W A c l.length l (hA.grow hW) rfl)
  have hse := fun x lo hi mx W => sliceAt_eq x lo hi mx W
  have hsl : ∀ W, (Instr.slice 22 (.slice A l.length c) none (some (.int .i64 (l.length : Int))) none).run Tryz.prog W = .ok (.slice A l.length c) W := fun W => slice_h A l.length c l.length hle W
  have d1 : decide ((2000 : Int) < (l.length : Int)) = false := by simp; omega
  have d2 : decide (2000 < l.length) = false := by simp; omega
  have hm : min (l.length : Int) 2000 = (l.length : Int) := by omega
  have HL : Hid (l.length ≤ 2000) := Lib.hid (by omega)
  have HE := Lib.hid (fun W (hW : Below w.heap.size w W) => henv.below hW)
  have UP := Lib.hid (fun W => refUpper_any ⟨l.toArray⟩ (by show l.toArray.size ≤ _; simp; omega) W)
  clear henv hA h2 hle
  obtain ⟨n, hn⟩ : ∃ n, l.length = n := ⟨_, rfl⟩
  have HN := Lib.hid hn
  rw [hn] at TK RP CV hsl d1 d2 hm ⊢
  clear hn
  go_enter Tryz.func7, Tryz.ntmps7
  go_wp2_with fail
  refine TK.out.mono ?_
  rintro e w1 ⟨v, ts, x, rfl, hO, hT, hb1⟩
  obtain ⟨A', k', rfl⟩ := own_any hO
  have HB1 := Lib.hid hb1
  have HS := Lib.hid (SlAt.of_own encT_len hO)
  have hcase : (x = -1 ∧ Hid (∃ us, TRun l 0 us l.length ∧ ∀ t ∈ us, t ∈ ts)) ∨ (∃ n : Nat, x = n) := by
    rcases hT with ⟨us, h1, h2, h3⟩ | ⟨us, k, _, _, _, _, h3⟩
    · exact .inl ⟨h3, Lib.hid ⟨us, h1, fun t ht => by rw [h2]; simp [ht]⟩⟩
    · exact .inr ⟨k, h3⟩
  have hn1b : ts.length ≤ 10000 := by have := hT.len.1; have := HL.out; omega
  clear hO TK hse hsl hm hb1 hT
  rcases hcase with ⟨rfl, hu⟩ | ⟨k, rfl⟩
  rotate_left
  · have d0 : decide ((0 : Int) ≤ (k : Int)) = true := by simp
    go_wp2_with fail
    refine (AL.out _ HB1.out).mono ?_
    rintro e w2 ⟨rfl, hb2⟩
    go_wp2_with fail
    go_ret
    exact ⟨rfl, below_next HB1.out hb2⟩
  obtain ⟨n1, hn1⟩ : ∃ n1, ts.length = n1 := ⟨_, rfl⟩
  have HN1 := Lib.hid hn1
  rw [hn1] at hn1b ⊢
  clear hn1
  go_wp2_with fail
  go_loopw [30] (fun i wr => ∃ k : Nat, k ≤ n1 ∧ i = .int .i64 (k : Int) ∧ Hid (∀ t ∈ ts.take k, t.kind ≤ 4) ∧ Hid (Below w1.heap.size w1 wr)) (fun i _ => n1 - (intOf i).toNat)
  case atStart => exact ⟨0, Nat.zero_le _, rfl, Lib.hid (fun t ht => by cases ht), Lib.hid (Below.refl _ _)⟩
  case round =>
    obtain ⟨k, hk, rfl, hK4, hB⟩ := hrel
    by_cases hlt : k < n1
    · have hltt : k < ts.length := by rw [HN1.out]; exact hlt
      obtain ⟨b, off, rfl, hbb, c0, c1, c2⟩ := tk_at (HS.out.below hB.out) hltt
      have hk0 : (0 : Int) ≤ (k : Int) := by omega
      have hk1 : (k : Int) < (n1 : Int) := by omega
      have HBR := Lib.hid (below_next HB1.out hB.out)
      by_cases h4 : ts[k].kind ≤ 4
      · have HK := Lib.hid (take_kinds hltt hK4.out h4)
        have d3 : decide ((4 : Int) < (ts[k].kind : Int)) = false := by simp; omega
        have d4 : decide (4 < ts[k].kind) = false := by simp; omega
        generalize ts[k].kind = q at *
        generalize ts[k].text = tx at *
        generalize ts[k].at_ = ta at *
        clear h4
        go_wp2_with fail
        go_roundw
        case rel => exact ⟨k + 1, by omega, by go_num, HK, Lib.hid (below_next hB.out (below_al _ _))⟩
        case measure => simp [intOf]; omega
      · have d3 : decide ((4 : Int) < (ts[k].kind : Int)) = true := by simp; omega
        have d4 : decide (4 < ts[k].kind) = true := by simp; omega
        generalize ts[k].kind = q at *
        generalize ts[k].text = tx at *
        generalize ts[k].at_ = ta at *
        clear h4
        have HBA := Lib.hid (fun o => below_next HBR.out (below_al wr o))
        go_wp2_with fail
        refine (AL.out _ (HBA.out _)).mono ?_
        rintro e w2 ⟨rfl, hb2⟩
        go_wp2_with fail
        go_ret
        exact ⟨rfl, below_next (HBA.out _) hb2⟩
    · obtain rfl : k = n1 := by omega
      have HK : Hid (∃ us, TRun l 0 us l.length ∧ ∀ t ∈ us, t.kind ≤ 4) := Lib.hid (by
        obtain ⟨us, h1, h2⟩ := hu.out
        refine ⟨us, h1, fun t ht => hK4.out t ?_⟩
        rw [List.take_of_length_le (by rw [HN1.out]; exact Nat.le_refl _)]
        exact h2 t ht)
      have HBR := Lib.hid (below_next HB1.out hB.out)
      clear hu hK4 hB HB1 HS HN1
      go_wp2_with fail
      refine (RP.out _ HBR.out).mono ?_
      rintro e w3 ⟨cm, ok, v, hi, rfl, ⟨⟨_, _, rfl, ⟨A3, k3, rfl, h1a, h1b⟩, A4, k4, rfl, h2a, h2b⟩, _⟩, hb3⟩
      have BD := Lib.hid (hi.bd (by have := HL.out; omega))
      have HI := Lib.hid hi
      have HB3 := Lib.hid (below_next HBR.out hb3)
      have b34 := below_al w3 (.cells (cmdA cm (.slice A3 cm.set.length k3) (.slice A4 cm.data.length k4)) 27)
      have HX4 := Lib.hid (heap_alloc_new w3 (.cells (cmdA cm (.slice A3 cm.set.length k3) (.slice A4 cm.data.length k4)) 27))
      have HB34 := Lib.hid b34
      have HB4 := Lib.hid (below_next HB3.out b34)
      have S1 := Lib.hid h1b
      have S2 := Lib.hid h2b
      have L2 := Lib.hid h2a
      have hs4 : w3.heap.size + 1 = _ := (World.size_alloc w3 (.cells (cmdA cm (.slice A3 cm.set.length k3) (.slice A4 cm.data.length k4)) 27)).symm
      unfold cmdA at *
      clear b34 h1b h2b h1a h2a hb3 hi RP HBR
      go_upto_region 11 with (fail)
      generalize w3.alloc (.cells #[.string ⟨cm.tag.toArray⟩, .int .i64 (cm.kind : Int), .string ⟨cm.mbox.toArray⟩, .slice A3 cm.set.length k3, .int .i64 (cm.items : Int), .int .i64 (cm.mode : Int), .bool cm.silent, .int .u8 (cm.flags : Int), .slice A4 cm.data.length k4] 27) = w4 at *
      have cv := CV.out w4 HB4.out
      go_wp2_with fail
      refine (UP.out _).mono ?_
      rintro e w5 ⟨rfl, hb5⟩
      have HB5 := Lib.hid (below_next HB4.out hb5)
      obtain ⟨cap, w6, hrun, hb6, hby, _, hs6, _⟩ := convB w5 ⟨(upL l).toArray⟩ n (by show (upL l).toArray.size = n; rw [List.size_toArray, upL_length, HN.out])
      have HB6 := Lib.hid (below_next HB5.out hb6)
      have PA := Lib.hid (command_any _ cap _ (upL l) (by rw [upL_length]; have := HL.out; omega) w6 (HE.out _ HB6.out) hby)
      rw [upL_length, HN.out] at PA
      have HB46 := Lib.hid (below_next hb5 hb6)
      have HS6 := Lib.hid (show w4.heap.size + 1 ≤ w6.heap.size by have := hb5.size; omega)
      clear cv CV UP hb5 hb6 hby hs6 HB5
      go_wp2_with fail
      refine PA.out.mono ?_
      rintro e w7 ⟨cm2, ok2, v, hi2, rfl, ⟨⟨_, _, rfl, ⟨A5, k5, rfl, h1a, h1b⟩, A6, k6, rfl, h2a, h2b⟩, hnv⟩, hb7⟩
      have hns := newV_at7 hnv
      obtain ⟨us, hu1, hu2⟩ := HK.out
      obtain ⟨hup, -, htl, hml⟩ := HI.out.up (by have := HL.out; omega) hu1 hu2
      obtain ⟨hcm, hok⟩ := hup.det hi2
      subst hok
      subst hcm
      have HB7 := Lib.hid (below_next HB6.out hb7)
      have b78 := below_al w7 (.cells #[.string ⟨(upL cm.tag).toArray⟩, .int .i64 (cm.kind : Int), .string ⟨(upL cm.mbox).toArray⟩, .slice A5 cm.set.length k5, .int .i64 (cm.items : Int), .int .i64 (cm.mode : Int), .bool cm.silent, .int .u8 (cm.flags : Int), .slice A6 cm.data.length k6] 27)
      have HX8 := Lib.hid (heap_alloc_new w7 (.cells #[.string ⟨(upL cm.tag).toArray⟩, .int .i64 (cm.kind : Int), .string ⟨(upL cm.mbox).toArray⟩, .slice A5 cm.set.length k5, .int .i64 (cm.items : Int), .int .i64 (cm.mode : Int), .bool cm.silent, .int .u8 (cm.flags : Int), .slice A6 cm.data.length k6] 27))
      have HB8 := Lib.hid (below_next HB7.out b78)
      have hs8 : w7.heap.size + 1 = _ := (World.size_alloc w7 (.cells #[.string ⟨(upL cm.tag).toArray⟩, .int .i64 (cm.kind : Int), .string ⟨(upL cm.mbox).toArray⟩, .slice A5 cm.set.length k5, .int .i64 (cm.items : Int), .int .i64 (cm.mode : Int), .bool cm.silent, .int .u8 (cm.flags : Int), .slice A6 cm.data.length k6] 27)).symm
      have HB48 := Lib.hid (below_next (below_next HB46.out hb7) b78)
      have HS7 := Lib.hid hb7.size
      have S3 := Lib.hid (show SlAt encR 2 _ A5 cm.set from h1b.below b78)
      have S4 := Lib.hid (show SlAt encB 1 _ A6 cm.data from h2b.below b78)
      have L4 : Hid (cm.data.length ≤ k6) := Lib.hid h2a
      have N5 : Hid (∀ b off s, A5 = some ⟨b, off, s⟩ → w6.heap.size ≤ b) := Lib.hid (fun b off s e => hns.1 b off s _ _ (by rw [e]))
      have N6 : Hid (∀ b off s, A6 = some ⟨b, off, s⟩ → w6.heap.size ≤ b) := Lib.hid (fun b off s e => hns.2 b off s _ _ (by rw [e]))
      have U0 := Lib.hid (fun W => refUpper_any ⟨cm.tag.toArray⟩ (by show cm.tag.toArray.size ≤ _; simp; omega) W)
      have U2 := Lib.hid (fun W => refUpper_any ⟨cm.mbox.toArray⟩ (by show cm.mbox.toArray.size ≤ _; simp; omega) W)
      simp only [cmdA]
      clear hi2 hup hb7 b78 hns hnv h1a h1b h2a h2b PA HK HI us hu1 hu2 htl hml HB46 HB6 HB7 hrun
      go_upto_region 12 with (fail)
      rename_i K hK
      generalize w7.alloc (.cells #[.string ⟨(upL cm.tag).toArray⟩, .int .i64 (cm.kind : Int), .string ⟨(upL cm.mbox).toArray⟩, .slice A5 cm.set.length k5, .int .i64 (cm.items : Int), .int .i64 (cm.mode : Int), .bool cm.silent, .int .u8 (cm.flags : Int), .slice A6 cm.data.length k6] 27) = w8 at *
      have C0 : CcS w3.heap.size w8 ⟨cm.tag.toArray⟩ ⟨(upL cm.tag).toArray⟩ ⟨cm.mbox.toArray⟩ ⟨(upL cm.mbox).toArray⟩ (.int .i64 (cm.kind : Int)) (.slice A3 cm.set.length k3) (.int .i64 (cm.items : Int)) (.int .i64 (cm.mode : Int)) (.bool cm.silent) (.int .u8 (cm.flags : Int)) (.slice A4 cm.data.length k4) false false w8 := ⟨(HB48.out.block w3.heap.size (by omega)).trans HX4.out, World.grownBy.refl _ _⟩
      have C1 : Hid (CcS w3.heap.size w8 ⟨cm.tag.toArray⟩ ⟨(upL cm.tag).toArray⟩ ⟨cm.mbox.toArray⟩ ⟨(upL cm.mbox).toArray⟩ (.int .i64 (cm.kind : Int)) (.slice A3 cm.set.length k3) (.int .i64 (cm.items : Int)) (.int .i64 (cm.mode : Int)) (.bool cm.silent) (.int .u8 (cm.flags : Int)) (.slice A4 cm.data.length k4) false false { w8 with drawn := w8.drawn + 1 }) := Lib.hid ⟨C0.1, grown_of_below (drewN_below7 w8 1)⟩
      have HB38 := Lib.hid (below_next HB34.out HB48.out)
      have HZ := Lib.hid (show w3.heap.size < w6.heap.size ∧ w6.heap.size ≤ w7.heap.size ∧ w7.heap.size < w8.heap.size from ⟨by have := HS6.out; omega, HS7.out, by omega⟩)
      clear HB34 HB48 C0 HX4 HS6 HS7 hs4 hs8
      have ST := fun T hT7 => cc_step w3.heap.size w8 ⟨cm.tag.toArray⟩ ⟨(upL cm.tag).toArray⟩ ⟨cm.mbox.toArray⟩ ⟨(upL cm.mbox).toArray⟩ (.int .i64 (cm.kind : Int)) (.slice A3 cm.set.length k3) (.int .i64 (cm.items : Int)) (.int .i64 (cm.mode : Int)) (.bool cm.silent) (.int .u8 (cm.flags : Int)) (.slice A4 cm.data.length k4) T hT7 U0.out U2.out
      clear U0 U2
      refine drawn_region_cl (ops := ccOps) (anc := dahead ccOps) (V := ccV w3.heap.size ⟨cm.tag.toArray⟩ ⟨(upL cm.tag).toArray⟩ ⟨cm.mbox.toArray⟩ ⟨(upL cm.mbox).toArray⟩) (S := fun m W => CcS w3.heap.size w8 ⟨cm.tag.toArray⟩ ⟨(upL cm.tag).toArray⟩ ⟨cm.mbox.toArray⟩ ⟨(upL cm.mbox).toArray⟩ (.int .i64 (cm.kind : Int)) (.slice A3 cm.set.length k3) (.int .i64 (cm.items : Int)) (.int .i64 (cm.mode : Int)) (.bool cm.silent) (.int .u8 (cm.flags : Int)) (.slice A4 cm.data.length k4) (m 7) (m 9) W) (R := fun _ _ => False) (by kernel_rfl) cc_fit C1.out (ST _ rfl) (fun c a w' _ _ _ h => h.elim) (fun W h => ?_)
      rw [dfin_put cc_fit, cc_size, cc_put]
      have h' : CcS w3.heap.size w8 ⟨cm.tag.toArray⟩ ⟨(upL cm.tag).toArray⟩ ⟨cm.mbox.toArray⟩ ⟨(upL cm.mbox).toArray⟩ (.int .i64 (cm.kind : Int)) (.slice A3 cm.set.length k3) (.int .i64 (cm.items : Int)) (.int .i64 (cm.mode : Int)) (.bool cm.silent) (.int .u8 (cm.flags : Int)) (.slice A4 cm.data.length k4) true true W := by simpa [cc_size] using h
      clear h ST C1
      have HG := Lib.hid h'.2
      have HX : Hid (W.heap[w3.heap.size]? = some (.cells #[.string ⟨(upL cm.tag).toArray⟩, .int .i64 (cm.kind : Int), .string ⟨(upL cm.mbox).toArray⟩, .slice A3 cm.set.length k3, .int .i64 (cm.items : Int), .int .i64 (cm.mode : Int), .bool cm.silent, .int .u8 (cm.flags : Int), .slice A4 cm.data.length k4] 27 (0, 0))) := Lib.hid h'.1
      clear h'
      have HB3W := Lib.hid (HB38.out.grown HG.out (by have := HZ.out; omega) (fun j hj => by cases hj; exact Nat.le_refl _))
      have HBW := Lib.hid (below_next HB3.out HB3W.out)
      have HY : Hid (W.heap[w7.heap.size]? = some (.cells #[.string ⟨(upL cm.tag).toArray⟩, .int .i64 (cm.kind : Int), .string ⟨(upL cm.mbox).toArray⟩, .slice A5 cm.set.length k5, .int .i64 (cm.items : Int), .int .i64 (cm.mode : Int), .bool cm.silent, .int .u8 (cm.flags : Int), .slice A6 cm.data.length k6] 27 (0, 0))) := Lib.hid ((HG.out.block w7.heap.size (by have := HZ.out; omega) (fun e => by injection e with e; have := HZ.out; omega)).trans HX8.out)
      have S1W := Lib.hid (S1.out.below HB3W.out)
      have S2W := Lib.hid (S2.out.below HB3W.out)
      have S3W := Lib.hid (slAt_past S3.out HG.out (fun b off s e => by have := N5.out b off s e; have := HZ.out; omega))
      have S4W := Lib.hid (slAt_past S4.out HG.out (fun b off s e => by have := N6.out b off s e; have := HZ.out; omega))
      clear S1 S2 S3 S4 N5 N6 HG HB38 HX8
      refine hK _ _ ?_
      go_wp2_with fail
      refine (AL.out _ HBW.out).mono ?_
      rintro e w9 ⟨rfl, hb9⟩
      have HB9 := Lib.hid (below_next HBW.out hb9)
      obtain ⟨x0, x1, x2, x3, x4, x5, x6, x7, x8⟩ := cells9 ((hb9.block w3.heap.size (Array.getElem?_eq_some_iff.1 HX.out).1).trans HX.out)
      obtain ⟨y0, y1, y2, y3, y4, y5, y6, y7, y8⟩ := cells9 ((hb9.block w7.heap.size (Array.getElem?_eq_some_iff.1 HY.out).1).trans HY.out)
      have SM : Hid (Calls Tryz.prog 12 #[.agg #[.string ⟨(upL cm.tag).toArray⟩, .int .i64 (cm.kind : Int), .string ⟨(upL cm.mbox).toArray⟩, .slice A3 cm.set.length k3, .int .i64 (cm.items : Int), .int .i64 (cm.mode : Int), .bool cm.silent, .int .u8 (cm.flags : Int), .slice A4 cm.data.length k4], .agg #[.string ⟨(upL cm.tag).toArray⟩, .int .i64 (cm.kind : Int), .string ⟨(upL cm.mbox).toArray⟩, .slice A5 cm.set.length k5, .int .i64 (cm.items : Int), .int .i64 (cm.mode : Int), .bool cm.silent, .int .u8 (cm.flags : Int), .slice A6 cm.data.length k6]] w9 fun e w' => e = .returned (.bool true) ∧ Below w9.heap.size w9 w') := Lib.hid (by
        have h := rsame_cmd { cm with tag := upL cm.tag, mbox := upL cm.mbox } { cm with tag := upL cm.tag, mbox := upL cm.mbox } A3 A4 A5 A6 k3 k4 k5 k6 (Nat.le_trans BD.out.1 (by omega)) (Nat.le_trans BD.out.2 (by omega)) (Nat.le_trans BD.out.1 (by omega)) (Nat.le_trans BD.out.2 (by omega)) L2.out L4.out w9 (S1W.out.below hb9) (S2W.out.below hb9) (S3W.out.below hb9) (S4W.out.below hb9)
        rw [sameC_refl] at h
        exact h)
      clear S1W S2W S3W S4W L2 L4 BD HX HY hb9 AL HBW HB3W HZ
      cases ok
      all_goals
        go_wp2_with fail
        refine SM.out.mono ?_
        rintro e w10 ⟨rfl, hb10⟩
        go_wp2_with fail
        go_ret
        exact ⟨rfl, below_next HB9.out hb10⟩
end Go.Proofs.YthfopimgdikpgaaGreatDoor
