/- A region that draws its order: whatever the order, each operation yields what is known ahead, and what is known of the world is kept. -/
import Derived.Test.YtpoejnajnaolpaaGreatDoorGa
namespace Go.Proofs.YtpoejnajnaolpaaGreatDoor
open Go.RowKit

section
/-- The operation that writes a slot. -/
def dwriter (ops : Array Oper) (t : Nat) : Option Nat := (List.range ops.size).find? fun k => (ops[k]?).any fun o => o.dst == some t
/-- The operations that come ahead of each, by the edges that bind. -/
def dahead (ops : Array Oper) : List (List Nat) :=
  (List.range ops.size).foldl (fun acc i =>
    let d := ((ops[i]?).map fun o => (o.after.toList.filter fun e => Region.binds .any e).map (·.on)).getD []
    acc ++ [(d ++ d.flatMap fun k => acc.getD k []).eraseDups]) []
def dal (anc : List (List Nat)) (i : Nat) : List Nat := anc.getD i []
/-- What an operand holds when operation i is carried out. -/
def dval (ops : Array Oper) (anc : List (List Nat)) (V : Nat → Value) (T : Array Value) (i : Nat) : Operand → Value
  | .tmp t => match dwriter ops t with
    | some k => if (dal anc i).contains k then V k else T.getD t undef
    | none => T.getD t undef
  | .const v => v
  | .global g => .pointer (some ⟨g, 0, none⟩)
  | .func f => .func (.func f) #[] #[]
/-- What is asked of the operations' order. -/
def dfit (ops : Array Oper) (anc : List (List Nat)) (n i : Nat) (o : Oper) : Bool :=
  ((dal anc i).all fun k => o.after.toList.any fun e => Region.binds .any e && (e.on == k || (dal anc e.on).contains k)) &&
  ((o.after.toList.all fun e => decide (e.on < i)) &&
  ((match o.op with | .select _ _ => false | _ => true) &&
  ((match o.dst with | some d => decide (d < n) && (dwriter ops d == some i) | none => true) &&
  ((match o.guard with | some (g, _) => (dal anc i).contains g && ((ops[g]?).any fun x => x.dst.isSome) | none => true) &&
  (o.op.operands.toList.all fun x => match x with
      | .tmp t => match dwriter ops t with
        | some k => (dal anc i).contains k || (k == i || (dal anc k).contains i)
        | none => true
      | _ => true)))))
def dfits (ops : Array Oper) (anc : List (List Nat)) (n : Nat) : Bool :=
  (List.range ops.size).all fun i => (ops[i]?).all fun o => dfit ops anc n i o
/-- Is operation o carried out, by what its guard yields? -/
def dwant (V : Nat → Value) (o : Oper) : Bool :=
  match o.guard with
  | none => true
  | some (g, b) => match V g with
    | .bool b' => b' == b
    | _ => false
def dset (m : Nat → Bool) (i : Nat) : Nat → Bool := fun j => if j = i then true else m j
/-- What carrying an operation out must lead to. -/
def DUp (P : Program) (v : Value) (S : World → Prop) (R : List PanicEntry → World → Prop) : Result Next → Prop
  | .ok (.value u) w => u = v ∧ S w
  | .ok .skip w => v = undef ∧ S w
  | .ok (.enter f args) w => Calls P f args w fun e w' => (e = .returned v ∧ S w') ∨ (∃ c, e = .panicked c ∧ R c w')
  | _ => False
def DStep (P : Program) (o : Oper) (ρ : Operand → Value) (V : Nat → Value) (i : Nat) (S : World → Prop) (R : List PanicEntry → World → Prop) (w : World) : Prop :=
  if dwant V o = true then DUp P (V i) S R ((execOp ρ o).run P w) else V i = undef ∧ S w
/-- The region with a number. -/
def dfind (n : Nat) : Code → Option (Array Oper)
  | .region id ops _ => if id == n then some ops else none
  | .seq a b => match dfind n a with | some o => some o | none => dfind n b
  | .cond _ a b => match dfind n a with | some o => some o | none => dfind n b
  | .block _ b => dfind n b
  | .loop b => dfind n b
  | .rangeFunc _ _ a b => match dfind n a with | some o => some o | none => dfind n b
  | _ => none
/-- The slots behind the region. -/
def dslot (ops : Array Oper) (V : Nat → Value) (T : Array Value) (j : Nat) : Value :=
  match dwriter ops j with
  | some k => V k
  | none => T.getD j undef
def dfin (ops : Array Oper) (V : Nat → Value) (T : Array Value) : Array Value := ((List.range T.size).map (dslot ops V T)).toArray
end

section
variable {P : Program} {ops : Array Oper} {Q : Exit → Act → World → Prop} {anc : List (List Nat)} {V : Nat → Value} {T : Array Value} {D : List Deferred} {S : (Nat → Bool) → World → Prop} {R : List PanicEntry → World → Prop}

@[simp] theorem dval_func {i : Nat} {f : FuncId} : dval ops anc V T i (.func f) = .func (.func f) #[] #[] := rfl
@[simp] theorem dval_const {i : Nat} {v : Value} : dval ops anc V T i (.const v) = v := rfl
@[simp] theorem dval_global {i : Nat} {g : Nat} : dval ops anc V T i (.global g) = .pointer (some ⟨g, 0, none⟩) := rfl
theorem dexec_load {o : Oper} {ρ : Operand → Value} {t : TypeId} {x : Operand} {v : Value} {w : World} (h : o.op = .load t x) (hr : (Instr.loadAt t (ρ x)).run P w = .ok v w) : (execOp ρ o).run P w = .ok (.value v) w := by
  unfold execOp
  rw [h]
  simp [hr, Result.andThen]
theorem dexec_store {o : Oper} {ρ : Operand → Value} {t : TypeId} {x y : Operand} {w w' : World} (h : o.op = .store t x y) (hr : (Instr.storeAt t (ρ x) (ρ y)).run P w = .ok () w') : (execOp ρ o).run P w = .ok .skip w' := by
  unfold execOp
  rw [h]
  simp [hr, Result.andThen]
theorem dexec_field {o : Oper} {ρ : Operand → Value} {t : TypeId} {x : Operand} {k : Nat} {v : Value} {w : World} (h : o.op = .fieldAddr t x k) (hr : (Instr.fieldAt t (ρ x) k).run P w = .ok v w) : (execOp ρ o).run P w = .ok (.value v) w := by
  unfold execOp
  rw [h]
  simp [hr, Result.andThen]
theorem dexec_call {o : Oper} {ρ : Operand → Value} {f : FuncId} {xs : Array Operand} {ts : Array TypeId} {args : Array Value} {w : World} (h : o.op = .call { callee := .value (.func f), args := xs, argTypes := ts }) (hf : ρ (.func f) = .func (.func f) #[] #[]) (hr : (callFunc f (xs.map ρ)).run P w = .ok (.enter f args) w) : (execOp ρ o).run P w = .ok (.enter f args) w := by
  simp [execOp, h, hf, go_sem, hr]
theorem dexec_index {o : Oper} {ρ : Operand → Value} {t : TypeId} {x y : Operand} {v : Value} {w : World} (h : o.op = .indexAddr t x y) (hr : (Instr.indexAt t (ρ x) (ρ y)).run P w = .ok v w) : (execOp ρ o).run P w = .ok (.value v) w := by
  unfold execOp
  rw [h]
  simp [hr, Result.andThen]
theorem dexec_add {o : Oper} {ρ : Operand → Value} {t u : TypeId} {x y : Operand} {a b : ByteArray} {w : World} (h : o.op = .binOp .add t x y u) (hx : ρ x = .string a) (hy : ρ y = .string b) (hs : a.size + b.size ≤ 9223372036854775807) : (execOp ρ o).run P w = .ok (.value (.string (a ++ b))) w := by
  simp [execOp, h, hx, hy, eqGuard, binOp_string_add, run_string_add_sum (P := P) (w := w) a b hs, Result.andThen]
theorem dstep_value {o : Oper} {ρ : Operand → Value} {i : Nat} {S : World → Prop} {w w' : World} (hw : dwant V o = true) (h : (execOp ρ o).run P w = .ok (.value (V i)) w') (hS : S w') : DStep P o ρ V i S R w := by
  unfold DStep
  rw [if_pos hw, h]
  exact ⟨rfl, hS⟩
theorem dstep_skip {o : Oper} {ρ : Operand → Value} {i : Nat} {S : World → Prop} {w w' : World} (hw : dwant V o = true) (h : (execOp ρ o).run P w = .ok .skip w') (hV : V i = undef) (hS : S w') : DStep P o ρ V i S R w := by
  unfold DStep
  rw [if_pos hw, h]
  exact ⟨hV, hS⟩
theorem dstep_enter {o : Oper} {ρ : Operand → Value} {i : Nat} {S : World → Prop} {w w' : World} {f : FuncId} {args : Array Value} (hw : dwant V o = true) (h : (execOp ρ o).run P w = .ok (.enter f args) w') (hc : Calls P f args w' fun e w'' => e = .returned (V i) ∧ S w'') : DStep P o ρ V i S R w := by
  unfold DStep
  rw [if_pos hw, h]
  exact hc.mono fun e w'' h => .inl h
theorem dstep_off {o : Oper} {ρ : Operand → Value} {i : Nat} {S : World → Prop} {w : World} (hw : dwant V o = false) (hV : V i = undef) (hS : S w) : DStep P o ρ V i S R w := by
  unfold DStep
  rw [if_neg (by rw [hw]; decide)]
  exact ⟨hV, hS⟩

theorem dwriter_some {t k : Nat} (h : dwriter ops t = some k) : ∃ o, ops[k]? = some o ∧ o.dst = some t := by
  unfold dwriter at h
  have := List.find?_some h
  cases ho : ops[k]? with
  | none => rw [ho] at this; simp at this
  | some o => rw [ho] at this; exact ⟨o, rfl, by simpa using this⟩
theorem dwriter_none {t : Nat} (h : dwriter ops t = none) {k : Nat} {o : Oper} (ho : ops[k]? = some o) : o.dst ≠ some t := by
  unfold dwriter at h
  have := List.find?_eq_none.1 h k (List.mem_range.2 (Array.getElem?_eq_some_iff.1 ho).1)
  rw [ho] at this
  simpa using this
theorem dfits_at {n : Nat} (h : dfits ops anc n = true) {i : Nat} {o : Oper} (ho : ops[i]? = some o) : dfit ops anc n i o = true := by
  unfold dfits at h
  rw [List.all_eq_true] at h
  have := h i (List.mem_range.2 (Array.getElem?_eq_some_iff.1 ho).1)
  rw [ho] at this
  exact this

/-- What holds while operations are listed. -/
structure DI (ops : Array Oper) (anc : List (List Nat)) (V : Nat → Value) (T : Array Value) (D : List Deferred) (S : (Nat → Bool) → World → Prop) (listed : Array Bool) (a : Act) (w : World) : Prop where
  defers : a.defers = D
  size : a.tmps.size = T.size
  new : ∀ i o d, ops[i]? = some o → o.dst = some d → listed.getD i false = true → a.tmps[d]? = some (V i)
  old : ∀ d, (∀ i o, ops[i]? = some o → o.dst = some d → listed.getD i false = false) → a.tmps[d]? = T[d]?
  closed : ∀ i, listed.getD i false = true → ∀ k ∈ dal anc i, listed.getD k false = true
  world : S (fun i => listed.getD i false) w

theorem dget {a : Act} {d : Nat} {v : Value} (h : a.tmps[d]? = some v) : a.eval (.tmp d) = v := by
  show a.tmps.getD d undef = v
  rw [Array.getD_eq_getD_getElem?, h]
  rfl
theorem dget_old {a : Act} {d : Nat} (h : a.tmps[d]? = T[d]?) : a.eval (.tmp d) = T.getD d undef := by
  show a.tmps.getD d undef = _
  rw [Array.getD_eq_getD_getElem?, Array.getD_eq_getD_getElem?, h]

theorem DI.put {listed : Array Bool} {a : Act} {w w' : World} {i : Nat} {o : Oper} (hI : DI ops anc V T D S listed a w) (hfit : dfits ops anc T.size = true) (ho : ops[i]? = some o) (hs : i < listed.size) (hk : ∀ k ∈ dal anc i, listed.getD k false = true) (hw : S (dset (fun j => listed.getD j false) i) w') :
    DI ops anc V T D S (listed.setIfInBounds i true) (a.put o.dst (V i)) w' := by
  have hm : ∀ j, (listed.setIfInBounds i true).getD j false = if j = i then true else listed.getD j false := fun j => getD_set hs
  have hf := dfits_at hfit ho
  simp only [dfit, Bool.and_eq_true] at hf
  obtain ⟨_, _, _, hd, _⟩ := hf
  have hp : ∀ j, (a.put o.dst (V i)).tmps[j]? = if o.dst = some j then some (V i) else a.tmps[j]? := by
    intro j
    cases hdd : o.dst with
    | none => rw [if_neg (by simp)]; rfl
    | some d =>
      rw [hdd] at hd
      have hlt : d < a.tmps.size := by rw [hI.size]; simp at hd; exact hd.1
      rw [tm_put _ _ _ _ hlt]
      by_cases e : j = d
      · rw [if_pos e, if_pos (by rw [e])]
      · rw [if_neg e, if_neg (by intro h; injection h with h; exact e h.symm)]
  have hu : ∀ j (oj : Oper) d, ops[j]? = some oj → oj.dst = some d → o.dst = some d → j = i := by
    intro j oj d hj hjd hid
    have h1 := dfits_at hfit hj
    simp only [dfit, Bool.and_eq_true] at h1
    obtain ⟨_, _, _, h1, _⟩ := h1
    rw [hjd] at h1
    rw [hid] at hd
    simp at h1 hd
    have := h1.2.symm.trans hd.2
    injection this
  refine ⟨?_, ?_, ?_, ?_, ?_, ?_⟩
  · cases hdd : o.dst <;> exact hI.defers
  · rw [← hI.size]
    cases hdd : o.dst with
    | none => rfl
    | some d => simp [Act.put]
  · intro j oj d hj hjd hl
    rw [hm] at hl
    rw [hp]
    by_cases e : j = i
    · subst e
      obtain rfl := Option.some.inj (ho.symm.trans hj)
      rw [if_pos hjd]
    · rw [if_neg e] at hl
      rw [if_neg (fun h => e (hu j oj d hj hjd h))]
      exact hI.new j oj d hj hjd hl
  · intro d h
    rw [hp]
    by_cases e : o.dst = some d
    · have := h i o ho e
      rw [hm, if_pos rfl] at this
      cases this
    · rw [if_neg e]
      refine hI.old d fun j oj hj hjd => ?_
      have := h j oj hj hjd
      rw [hm] at this
      split at this
      · cases this
      · exact this
  · intro j hj k hkk
    rw [hm] at hj ⊢
    by_cases e : j = i
    · subst e
      rw [hk k hkk]
      simp
    · rw [if_neg e] at hj
      rw [hI.closed j hj k hkk]
      simp
  · have : (fun j => (listed.setIfInBounds i true).getD j false) = dset (fun j => listed.getD j false) i := funext fun j => by rw [hm]; rfl
    rw [this]
    exact hw

/-- The same, where a step may use that what comes ahead of a listed operation is listed. -/
theorem drawn_region_cl {id : Nat} {w : World} (hm : P.follows .mixedOrders = true) (hfit : dfits ops anc T.size = true)
    (hS0 : S (fun _ => false) { w with drawn := w.drawn + 1 })
    (hstep : ∀ i o, ops[i]? = some o → ∀ m w', (∀ j, m j = true → ∀ k ∈ dal anc j, m k = true) → (∀ k ∈ dal anc i, m k = true) → m i = false → S m w' → DStep P o (dval ops anc V T i) V i (S (dset m i)) R w')
    (hp : ∀ c a w', a.defers = D → a.tmps.size = T.size → (∀ j, dwriter ops j = none → a.tmps[j]? = T[j]?) → R c w' → Q (.panic c) a w')
    (hdone : ∀ w', S (fun i => decide (i < ops.size)) w' → Q .normal { tmps := dfin ops V T, defers := D } w') :
    (Code.region id ops true).wp P Q { tmps := T, defers := D } w := by
  refine wp_region_any hm ?_
  refine wpAny_inv (DI ops anc V T D S) ?step ?done ops.size _ _ _ (by rw [Array.size_replicate]) ?cnt ?start
  case cnt => unfold cntF; simp
  case start =>
    refine ⟨rfl, rfl, ?_, ?_, ?_, ?_⟩
    · intro i o d _ _ h; rw [repl_getD] at h; cases h
    · intro d _; rfl
    · intro i h; rw [repl_getD] at h; cases h
    · have : (fun i => (Array.replicate ops.size false).getD i false) = fun _ => false := funext fun i => repl_getD _ _
      rw [this]
      exact hS0
  case done =>
    intro listed a w1 hs hI hr
    have hb : ∀ (i : Nat) (o : Oper), ops[i]? = some o → ∀ e ∈ o.after, e.on < i := by
      intro i o ho e he
      have h1 := dfits_at hfit ho
      simp only [dfit, Bool.and_eq_true] at h1
      obtain ⟨_, h1, _⟩ := h1
      rw [List.all_eq_true] at h1
      simpa using h1 e (by simpa using he)
    have hall : ∀ i, i < ops.size → listed.getD i false = true := fun i hi => all_listed hs hr hb ops.size i hi hi
    have hmm : (fun i => listed.getD i false) = fun i => decide (i < ops.size) := funext fun i => by
      by_cases h : i < ops.size
      · rw [hall i h]; simp [h]
      · rw [Array.getD_eq_getD_getElem?, Array.getElem?_eq_none (by omega)]; simp [h]
    have hw := hI.world
    rw [hmm] at hw
    obtain ⟨tm, df⟩ := a
    have h1 : df = D := hI.defers
    subst h1
    have h2 : tm = dfin ops V T := by
      apply Array.ext_getElem?
      intro j
      have hz : tm.size = T.size := hI.size
      unfold dfin
      have e : ∀ L : List Value, L.toArray[j]? = L[j]? := fun L => List.getElem?_toArray
      rw [e (List.map _ _), List.getElem?_map]
      by_cases hj : j < T.size
      · rw [List.getElem?_range hj]
        show tm[j]? = some (dslot ops V T j)
        unfold dslot
        cases hd : dwriter ops j with
        | some k =>
          obtain ⟨o, ho, hod⟩ := dwriter_some hd
          exact hI.new k o j ho hod (hall k (Array.getElem?_eq_some_iff.1 ho).1)
        | none =>
          have := hI.old j (fun i o ho hod => absurd hod (dwriter_none hd ho))
          have this : tm[j]? = T[j]? := this
          rw [this, Array.getElem?_eq_getElem hj]
          simp [hj]
      · rw [Array.getElem?_eq_none (by omega), List.getElem?_eq_none (by simpa using hj)]
        rfl
    rw [h2]
    exact hdone w1 hw
  case step =>
    intro listed a w1 i hs hI hi
    obtain ⟨hl, o, ho, hafter⟩ := ready_of hi
    have hlt : i < listed.size := by rw [hs]; exact (Array.getElem?_eq_some_iff.1 ho).1
    have hl2 := getD_tf hlt hl
    have hf := dfits_at hfit ho
    simp only [dfit, Bool.and_eq_true] at hf
    obtain ⟨f1, _, f3, _, f5, f6⟩ := hf
    have hk : ∀ k ∈ dal anc i, listed.getD k false = true := by
      intro k hk
      rw [List.all_eq_true] at f1
      have := f1 k hk
      rw [List.any_eq_true] at this
      obtain ⟨e, he, h⟩ := this
      rw [Bool.and_eq_true, Bool.or_eq_true] at h
      have hle := hafter e (by simpa using he) h.1
      rcases h.2 with h | h
      · rw [← (by simpa using h : e.on = k)]; exact hle
      · exact hI.closed e.on hle k (by simpa using h)
    have hrho : ∀ x ∈ o.op.operands, a.eval x = dval ops anc V T i x := by
      intro x hx
      rw [List.all_eq_true] at f6
      have h6 := f6 x (by simpa using hx)
      cases x with
      | const v => rfl
      | global g => rfl
      | func f => rfl
      | tmp t =>
        unfold dval
        simp only at h6 ⊢
        cases hd : dwriter ops t with
        | none =>
          exact dget_old (hI.old t (fun j oj hj hjd => absurd hjd (dwriter_none hd hj)))
        | some k =>
          rw [hd] at h6
          simp only at h6 ⊢
          obtain ⟨ok, hok, hokd⟩ := dwriter_some hd
          cases hc : (dal anc i).contains k with
          | true =>
            rw [if_pos rfl]
            exact dget (hI.new k ok t hok hokd (hk k (by simpa using hc)))
          | false =>
            rw [if_neg (by decide)]
            rw [hc, Bool.false_or, Bool.or_eq_true] at h6
            refine dget_old (hI.old t (fun j oj hj hjd => ?_))
            have hjk : j = k := by
              have h1 := dfits_at hfit hj
              simp only [dfit, Bool.and_eq_true] at h1
              obtain ⟨_, _, _, h1, _⟩ := h1
              rw [hjd] at h1
              simp at h1
              exact Option.some.inj (h1.2.symm.trans hd)
            subst hjk
            rcases h6 with h6 | h6
            · rw [(by simpa using h6 : j = i)]; exact hl2
            · cases hlj : listed.getD j false with
              | false => rfl
              | true =>
                have := hI.closed j hlj i (by simpa using h6)
                rw [hl2] at this
                cases this
    have hwant : Region.wanted o (yielded ops a.tmps) = dwant V o := by
      unfold Region.wanted dwant
      cases hg : o.guard with
      | none => rfl
      | some gb =>
        obtain ⟨g, b⟩ := gb
        rw [hg] at f5
        simp only [Bool.and_eq_true] at f5 ⊢
        obtain ⟨f5, f5'⟩ := f5
        cases hog : ops[g]? with
        | none => rw [hog] at f5'; simp at f5'
        | some og =>
          rw [hog] at f5'
          cases hgd : og.dst with
          | none => simp [hgd] at f5'
          | some d =>
            have hn := hI.new g og d hog hgd (hk g (by simpa using f5))
            have hy : yielded ops a.tmps g = match V g with
                | .bool b => some b
                | _ => none := by
              unfold yielded
              rw [hog]
              simp only [Option.bind_some, hgd, hn]
              cases V g <;> rfl
            rw [hy]
            cases V g <;> first | rfl | (cases b <;> rename_i x <;> cases x <;> rfl)
    have hst := hstep i o ho (fun j => listed.getD j false) w1 hI.closed hk hl2 hI.world
    unfold DStep at hst
    unfold wpOp
    rw [ho]
    simp only
    rw [hwant]
    cases hdw : dwant V o with
    | false =>
      rw [hdw] at hst
      simp only [Bool.false_eq_true, if_false] at hst ⊢
      rw [← hst.1]
      exact hI.put hfit ho hlt hk hst.2
    | true =>
      rw [hdw, if_pos rfl] at hst
      simp only [if_true]
      refine .inl ?_
      unfold Oper.wp
      have hsel : ∀ cs b, o.op ≠ .select cs b := by
        intro cs b e
        rw [e] at f3
        cases f3
      rw [execOp_congr o hsel hrho]
      generalize (execOp (dval ops anc V T i) o).run P w1 = r at hst ⊢
      match r, hst with
      | .ok (.value u) w2, h =>
        obtain ⟨rfl, h⟩ := h
        exact hI.put hfit ho hlt hk h
      | .ok .skip w2, h =>
        obtain ⟨h0, h⟩ := h
        show DI ops anc V T D S _ (a.put o.dst undef) w2
        rw [← h0]
        exact hI.put hfit ho hlt hk h
      | .ok (.enter f args) w2, h =>
        rw [Oper.upon_enter]
        refine Calls.mono h ?_
        rintro e w3 (⟨rfl, h⟩ | ⟨c, rfl, h⟩)
        · exact hI.put hfit ho hlt hk h
        · exact hp c a w3 hI.defers hI.size (fun j hj => hI.old j (fun k ok hk' hkd => absurd hkd (dwriter_none hj hk'))) h
theorem drawn_region {id : Nat} {w : World} (hm : P.follows .mixedOrders = true) (hfit : dfits ops anc T.size = true)
    (hS0 : S (fun _ => false) { w with drawn := w.drawn + 1 })
    (hstep : ∀ i o, ops[i]? = some o → ∀ m w', (∀ k ∈ dal anc i, m k = true) → m i = false → S m w' → DStep P o (dval ops anc V T i) V i (S (dset m i)) R w')
    (hp : ∀ c a w', a.defers = D → a.tmps.size = T.size → (∀ j, dwriter ops j = none → a.tmps[j]? = T[j]?) → R c w' → Q (.panic c) a w')
    (hdone : ∀ w', S (fun i => decide (i < ops.size)) w' → Q .normal { tmps := dfin ops V T, defers := D } w') :
    (Code.region id ops true).wp P Q { tmps := T, defers := D } w :=
  drawn_region_cl hm hfit hS0 (fun i o ho m w' _ h1 h2 h3 => hstep i o ho m w' h1 h2 h3) hp hdone
/-- The slots behind the region, as one store after another. -/
def dputN (ops : Array Oper) (V : Nat → Value) (T : Array Value) : Nat → Array Value
  | 0 => T
  | n + 1 => match (ops[n]?).bind (·.dst) with
    | some d => (dputN ops V T n).setIfInBounds d (V n)
    | none => dputN ops V T n
theorem dput_size (n : Nat) : (dputN ops V T n).size = T.size := by
  induction n with
  | zero => rfl
  | succ n ih =>
    unfold dputN
    split
    · rw [Array.size_setIfInBounds]; exact ih
    · exact ih
theorem dput_at (hfit : dfits ops anc T.size = true) (n j : Nat) : (dputN ops V T n)[j]? = match dwriter ops j with
    | some k => if k < n ∧ j < T.size then some (V k) else T[j]?
    | none => T[j]? := by
  induction n with
  | zero =>
    cases dwriter ops j with
    | none => rfl
    | some k => simp [dputN]
  | succ n ih =>
    unfold dputN
    cases ho : ops[n]? with
    | none =>
      simp only [Option.bind_none]
      rw [ih]
      cases hd : dwriter ops j with
      | none => rfl
      | some k =>
        obtain ⟨o, hk, _⟩ := dwriter_some hd
        have hne : k ≠ n := fun e => by rw [e, ho] at hk; cases hk
        have : (k < n ∧ j < T.size) ↔ (k < n + 1 ∧ j < T.size) := by omega
        simp only [this]
    | some o =>
      simp only [Option.bind_some]
      have hf := dfits_at hfit ho
      simp only [dfit, Bool.and_eq_true] at hf
      obtain ⟨_, _, _, hfd, _⟩ := hf
      cases hod : o.dst with
      | none =>
        simp only
        rw [ih]
        cases hd : dwriter ops j with
        | none => rfl
        | some k =>
          obtain ⟨o2, hk, hk2⟩ := dwriter_some hd
          have hne : k ≠ n := fun e => by rw [e, ho] at hk; cases hk; rw [hod] at hk2; cases hk2
          have : (k < n ∧ j < T.size) ↔ (k < n + 1 ∧ j < T.size) := by omega
          simp only [this]
      | some d =>
        simp only
        rw [hod] at hfd
        simp at hfd
        rw [Array.getElem?_setIfInBounds, dput_size]
        by_cases e : d = j
        · subst e
          rw [if_pos rfl, if_pos hfd.1, hfd.2]
          simp [hfd.1]
        · rw [if_neg e, ih]
          cases hd : dwriter ops j with
          | none => rfl
          | some k =>
            obtain ⟨o2, hk, hk2⟩ := dwriter_some hd
            have hne : k ≠ n := fun e2 => by rw [e2, ho] at hk; cases hk; rw [hod] at hk2; injection hk2 with hk2; exact e hk2
            have : (k < n ∧ j < T.size) ↔ (k < n + 1 ∧ j < T.size) := by omega
            simp only [this]
theorem dfin_put (hfit : dfits ops anc T.size = true) : dfin ops V T = dputN ops V T ops.size := by
  apply Array.ext_getElem?
  intro j
  rw [dput_at hfit]
  unfold dfin
  have e : ∀ L : List Value, L.toArray[j]? = L[j]? := fun L => List.getElem?_toArray
  rw [e (List.map _ _), List.getElem?_map]
  by_cases hj : j < T.size
  · rw [List.getElem?_range hj]
    show some (dslot ops V T j) = _
    unfold dslot
    cases hd : dwriter ops j with
    | none => simp [hj]
    | some k =>
      obtain ⟨o, ho, _⟩ := dwriter_some hd
      have hk := (Array.getElem?_eq_some_iff.1 ho).1
      simp [hk, hj]
  · rw [List.getElem?_eq_none (by simpa using hj)]
    have h1 : T[j]? = none := Array.getElem?_eq_none (by omega)
    cases dwriter ops j with
    | none => exact h1.symm
    | some k => simp [hj]
end
end Go.Proofs.YtpoejnajnaolpaaGreatDoor
