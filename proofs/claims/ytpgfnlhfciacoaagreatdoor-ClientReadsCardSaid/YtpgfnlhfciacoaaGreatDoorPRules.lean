import Derived.Test.YtpgfnlhfciacoaaGreatDoorPGp
set_option maxRecDepth 100000
set_option maxHeartbeats 1000000
open Go.Lib renaming hid → Hi
namespace Go.Proofs.YtpgfnlhfciacoaaGreatDoor
open Go.RowKit Go.Maps
noncomputable def rulesOps : Array Oper :=
 match Tryz.f71.body with
 | some (Code.seq _ (Code.seq (Code.region _ ops _) _)) => ops
 | _ => #[]
def ruleF (k : Nat) : FuncId := if k ≤ 4 then 111 else if k = 5 then 112 else if k = 6 then 113 else if k = 7 then 114 else 115
theorem ops_before : ∀ (i : Nat) (o : Oper), rulesOps[i]? = some o → ∀ e ∈ o.after, e.on < i := by
 have h : (List.range rulesOps.size).all (fun i => (rulesOps[i]?).all fun o => o.after.all fun e => decide (e.on < i)) = true := by kernel_rfl
 intro i o ho e he
 rw [List.all_eq_true] at h
 have h1 := h i (List.mem_range.2 (Array.getElem?_eq_some_iff.1 ho).1)
 rw [ho] at h1
 have h2 : o.after.all (fun e => decide (e.on < i)) = true := h1
 rw [Array.all_eq_true'] at h2
 simpa using h2 e he
theorem ops_size : rulesOps.size = 19 := by kernel_rfl
def Op0 (o : Oper) : Prop := o.guard = none ∧ o.dst = some 1 ∧ o.op = .makeMap 110 none
def OpC (k : Nat) (o : Oper) : Prop := o.guard = none ∧ o.dst = some (k + 1) ∧ o.op = .call { callee := .value (.func 81), args := #[.const (.int .i64 (k : Int))], argTypes := #[3] }
def OpI (k : Nat) (o : Oper) : Prop := o.guard = none ∧ o.dst = none ∧ o.op = .insert 110 (.tmp 1) (.tmp (k + 1)) (.func (ruleF k)) ∧ (∃ e ∈ o.after, Region.binds .any e = true ∧ e.on = 0) ∧ (∃ e ∈ o.after, Region.binds .any e = true ∧ e.on = 2 * k - 1)
theorem op_0 : ∃ o, rulesOps[0]? = some o ∧ Op0 o := ⟨_, by rfl, by rfl, by rfl, by rfl⟩
theorem op_c (k : Nat) (h : 1 ≤ k ∧ k ≤ 8) : ∃ o, rulesOps[2 * k - 1]? = some o ∧ OpC k o := by
 have h2 : k = 1 ∨ k = 2 ∨ k = 3 ∨ k = 4 ∨ k = 5 ∨ k = 6 ∨ k = 7 ∨ k = 8 := by omega
 rcases h2 with rfl | rfl | rfl | rfl | rfl | rfl | rfl | rfl <;> exact ⟨_, by rfl, by rfl, by rfl, by rfl⟩
theorem op_i (k : Nat) (h : 1 ≤ k ∧ k ≤ 8) : ∃ o, rulesOps[2 * k]? = some o ∧ OpI k o := by
 have h2 : k = 1 ∨ k = 2 ∨ k = 3 ∨ k = 4 ∨ k = 5 ∨ k = 6 ∨ k = 7 ∨ k = 8 := by omega
 rcases h2 with rfl | rfl | rfl | rfl | rfl | rfl | rfl | rfl <;> exact ⟨_, by rfl, by rfl, by rfl, by rfl, ⟨_, Array.mem_of_getElem? (i := 0) rfl, by rfl, by rfl⟩, ⟨_, Array.mem_of_getElem? (i := 1) rfl, by rfl, by rfl⟩⟩
theorem op_17 : ∃ o, rulesOps[17]? = some o ∧ o.guard = none ∧ o.dst = some 10 ∧ o.op = .move (.tmp 1) ∧ (∃ e ∈ o.after, Region.binds .any e = true ∧ e.on = 0) := ⟨_, by rfl, by rfl, by rfl, by rfl, ⟨_, Array.mem_of_getElem? (i := 0) rfl, by rfl, by rfl⟩⟩
theorem op_18 : ∃ o, rulesOps[18]? = some o ∧ o.guard = none ∧ o.dst = some 0 ∧ o.op = .assign (.tmp 10) ∧ (∃ e ∈ o.after, Region.binds .any e = true ∧ e.on = 17) := ⟨_, by rfl, by rfl, by rfl, by rfl, ⟨_, Array.mem_of_getElem? (i := 0) rfl, by rfl, by rfl⟩⟩
def fnE : Value → Option (DataW Unit × List MemPlace)
 | .nilFunc => some (.nil, [])
 | .func (.func n) a b => if a.size = 0 ∧ b.size = 0 then some (.lit (.int .i64 n), []) else none
 | _ => none
theorem fnE_nil {v : Value} {ps : List MemPlace} (h : fnE v = some (.nil, ps)) : v = .nilFunc := by
 unfold fnE at h
 split at h
 · rfl
 · split at h <;> simp at h
 · cases h
theorem fnE_fn {v : Value} {n : Nat} {ps : List MemPlace} (h : fnE v = some (.lit (.int .i64 n), ps)) : v = .func (.func n) #[] #[] := by
 unfold fnE at h
 split at h
 · simp at h
 · rename_i m a b
   split at h
   · rename_i hs
     simp at h
     obtain ⟨h, _⟩ := h
     have ha : a = #[] := by apply Array.eq_empty_of_size_eq_zero hs.1
     have hb : b = #[] := by apply Array.eq_empty_of_size_eq_zero hs.2
     subst ha hb
     first
      | (subst h; rfl)
      | (have hm : m = n := Int.ofNat.inj h; subst hm; rfl)
   · cases h
 · cases h
def ruD (n : Nat) : DataW Unit := .lit (.int .i64 (n : Int))
structure RI (n0 : Nat) (w0 : World) (m : Nat → Bool) (left : Nat) (a : Act) (w : World) : Prop where
 defers : a.defers = []
 size : a.tmps.size = 11
 below : Below n0 w0 w
 calls : ∀ k, 1 ≤ k → k ≤ 8 → m (2 * k - 1) = true → a.tmps[k + 1]? = some (.string ⟨(verbB k).toArray⟩)
 first : m 0 = false → (∀ k, 1 ≤ k → k ≤ 8 → m (2 * k) = false) ∧ m 17 = false
 last : m 17 = false → m 18 = false
 map : m 0 = true → ∃ b n D, a.tmps[1]? = some (.map (some b)) ∧ w.ownsMap Tryz.prog 9 fnE b n D ∧ IsMap D ∧ n + left ≤ 19 ∧ n0 ≤ b ∧ ∀ l z, D.atKey (.string l) z = if QJ l ≠ 0 ∧ m (2 * QJ l) = true then ruD (ruleF (QJ l)) else z
 t10 : m 17 = true → a.tmps[10]? = a.tmps[1]?
 t0 : m 18 = true → a.tmps[0]? = a.tmps[10]?
def RulesD (D : DataW Unit) : Prop := ∀ l z, D.atKey (.string l) z = if QJ l ≠ 0 then ruD (ruleF (QJ l)) else z
abbrev RIL (n0 : Nat) (w0 : World) (l : Array Bool) : Act → World → Prop := RI n0 w0 (fun i => l.getD i false) (cntF l)
section
variable {Q : Exit → Act → World → Prop} {n0 : Nat} {w0 : World} {listed : Array Bool} {a : Act} {w : World} {o : Oper}
theorem st_0 (hs : listed.size = 19) (hI : RIL n0 w0 listed a w) (hl : listed.getD 0 true = false) (hn : n0 ≤ w.heap.size) (ho : Op0 o) :
 o.wp Tryz.prog a w (RIL n0 w0 (listed.setIfInBounds 0 true)) Q := by
 obtain ⟨hg, hd, hop⟩ := ho
 have hrun := @run_makeMap Tryz.prog 110 w
 unfold Oper.wp
 have e1 : (execOp a.eval o).run Tryz.prog w = .ok (.value (.map (some w.heap.size))) (w.alloc (.map #[] 0)) := by
  simp [execOp, hop, hrun, Result.andThen]
 rw [e1, Oper.upon_value, hd]
 have h0 := getD_tf (by omega) hl
 have hc := cntF_set hl
 obtain ⟨hf, hf17⟩ := hI.first h0
 have hm : ∀ j, (listed.setIfInBounds 0 true).getD j false = if j = 0 then true else listed.getD j false := fun j => getD_set (by omega)
 have hz := hI.size
 refine ⟨hI.defers, by simpa [Act.put] using hz, hI.below.alloc hn _, ?_, ?_, ?_, ?_, ?_, ?_⟩
 · intro k h1 h8 hk
   simp only [hm] at hk
   rw [if_neg (by omega)] at hk
   rw [tm_put _ _ _ _ (by omega), if_neg (by omega)]
   exact hI.calls k h1 h8 hk
 · intro h; simp only [hm] at h; simp at h
 · intro h
   simp only [hm] at h ⊢
   rw [if_neg (by omega)] at h ⊢
   exact hI.last h
 · intro _
   refine ⟨w.heap.size, 0, .map [], ?_, World.ownsMap_made w _ _ _, isMap_empty, ?_, hn, fun l z => ?_⟩
   · rw [tm_put _ _ _ _ (by omega), if_pos rfl]
   · have : cntF listed ≤ 19 := by unfold cntF; have h := List.count_le_length (a := false) (l := listed.toList); rw [Array.length_toList] at h; omega
     omega
   · rw [if_neg]
     · rfl
     · rintro ⟨h0', hk⟩
       simp only [hm] at hk
       rw [if_neg (by omega), hf (QJ l) (by omega) (kindU_le l)] at hk
       cases hk
 · intro h
   simp only [hm] at h
   rw [if_neg (by omega), hf17] at h
   cases h
 · intro h
   simp only [hm] at h
   rw [if_neg (by omega)] at h
   rw [tm_put _ _ _ _ (by omega), tm_put _ _ _ _ (by omega), if_neg (by omega), if_neg (by omega)]
   exact hI.t0 h
theorem verbZ_nat {k : Nat} (h : 1 ≤ k ∧ k ≤ 8) : verbZ (k : Int) = verbB k := by
 unfold verbZ
 rw [if_pos (by omega), Int.toNat_natCast]
theorem st_c {k : Nat} (hk : 1 ≤ k ∧ k ≤ 8) (hs : listed.size = 19) (hI : RIL n0 w0 listed a w) (hl : listed.getD (2 * k - 1) true = false) (hn : n0 ≤ w.heap.size) (ho : OpC k o) :
 o.wp Tryz.prog a w (RIL n0 w0 (listed.setIfInBounds (2 * k - 1) true)) Q := by
 obtain ⟨hg, hd, hop⟩ := ho
 unfold Oper.wp
 have e1 : (execOp a.eval o).run Tryz.prog w = .ok (.enter 81 #[.int .i64 (k : Int)]) w := by
  simp [execOp, hop, go_sem]
 rw [e1, Oper.upon_enter, hd]
 refine (verb_any (k : Int) (by omega) (by omega) w).mono ?_
 rintro e w' ⟨rfl, hb⟩
 rw [verbZ_nat hk]
 have hc := cntF_set hl
 have hm : ∀ j, (listed.setIfInBounds (2 * k - 1) true).getD j false = if j = 2 * k - 1 then true else listed.getD j false := fun j => getD_set (by omega)
 have hz := hI.size
 refine ⟨hI.defers, by simpa [Act.put] using hz, hI.below.trans (hb.mono hn), ?_, ?_, ?_, ?_, ?_, ?_⟩
 · intro j h1 h8 hj
   simp only [hm] at hj
   rw [tm_put _ _ _ _ (by omega)]
   by_cases e : j = k
   · subst e; rw [if_pos rfl]
   · rw [if_neg (by omega)] at hj
     rw [if_neg (by omega)]
     exact hI.calls j h1 h8 hj
 · intro h
   simp only [hm] at h ⊢
   rw [if_neg (by omega)] at h
   obtain ⟨h1, h2⟩ := hI.first h
   refine ⟨fun j hj1 hj8 => ?_, ?_⟩
   · rw [if_neg (by omega)]; exact h1 j hj1 hj8
   · rw [if_neg (by omega)]; exact h2
 · intro h
   simp only [hm] at h ⊢
   rw [if_neg (by omega)] at h ⊢
   exact hI.last h
 · intro h
   simp only [hm] at h
   rw [if_neg (by omega)] at h
   obtain ⟨b, n, D, t1, hown, hD, hle, hb0, hat⟩ := hI.map h
   refine ⟨b, n, D, ?_, hown.kept (row := none) (YE hb) (by simp), hD, by omega, hb0, fun l z => ?_⟩
   · rw [tm_put _ _ _ _ (by omega), if_neg (by omega)]; exact t1
   · rw [hat l z]
     simp only [hm]
     rw [if_neg (show ¬ 2 * QJ l = 2 * k - 1 by omega)]
 · intro h
   simp only [hm] at h
   rw [if_neg (by omega)] at h
   rw [tm_put _ _ _ _ (by omega), tm_put _ _ _ _ (by omega), if_neg (by omega), if_neg (by omega)]
   exact hI.t10 h
 · intro h
   simp only [hm] at h
   rw [if_neg (by omega)] at h
   rw [tm_put _ _ _ _ (by omega), tm_put _ _ _ _ (by omega), if_neg (by omega), if_neg (by omega)]
   exact hI.t0 h
theorem eval_tmp {a : Act} {j : Nat} {v : Value} (h : a.tmps[j]? = some v) : a.eval (.tmp j) = v := by
 show a.tmps.getD j undef = v
 rw [Array.getD_eq_getD_getElem?, h]
 rfl
theorem st_i {k : Nat} (hk : 1 ≤ k ∧ k ≤ 8) (hs : listed.size = 19) (hI : RIL n0 w0 listed a w) (hl : listed.getD (2 * k) true = false) (hn : n0 ≤ w.heap.size) (h0 : listed.getD 0 false = true) (h1 : listed.getD (2 * k - 1) false = true) (ho : OpI k o) :
 o.wp Tryz.prog a w (RIL n0 w0 (listed.setIfInBounds (2 * k) true)) Q := by
 obtain ⟨hg, hd, hop, _⟩ := ho
 have hc := cntF_set hl
 have hm : ∀ j, (listed.setIfInBounds (2 * k) true).getD j false = if j = 2 * k then true else listed.getD j false := fun j => getD_set (by omega)
 have hz := hI.size
 obtain ⟨b, n, D, t1, hown, hD, hle, hb0, hat⟩ := hI.map h0
 have tk := hI.calls k hk.1 hk.2 h1
 have hR : fnE (.func (.func (ruleF k)) #[] #[]) = some (ruD (ruleF k), []) := rfl
 obtain ⟨w', hrun, r1, r2⟩ := hown.update keyS Tryz.underlying110 (by unfold maxLen; omega) (kS (verbB k) (by
  have h2 : k = 1 ∨ k = 2 ∨ k = 3 ∨ k = 4 ∨ k = 5 ∨ k = 6 ∨ k = 7 ∨ k = 8 := by omega
  rcases h2 with rfl | rfl | rfl | rfl | rfl | rfl | rfl | rfl <;> decide)) hR
 unfold Oper.wp
 have e1 : (execOp a.eval o).run Tryz.prog w = .ok .skip w' := by
  have ef : a.eval (.func (ruleF k)) = .func (.func (ruleF k)) #[] #[] := rfl
  simp [execOp, hop, eval_tmp t1, eval_tmp tk, ef, hrun, Result.andThen]
 rw [e1, Oper.upon_skip, hd]
 have hp : a.put none undef = a := rfl
 rw [hp]
 have hB : Below n0 w0 w' := hI.below.grown r2 hn (fun j hj => by cases hj; exact hb0)
 refine ⟨hI.defers, hz, hB, ?_, ?_, ?_, ?_, ?_, ?_⟩
 · intro j hj1 hj8 hj
   simp only [hm] at hj
   rw [if_neg (by omega)] at hj
   exact hI.calls j hj1 hj8 hj
 · intro h
   simp only [hm] at h
   rw [if_neg (by omega), h0] at h
   cases h
 · intro h
   simp only [hm] at h ⊢
   rw [if_neg (by omega)] at h ⊢
   exact hI.last h
 · intro _
   refine ⟨b, n + 1, _, t1, r1, hD.put _ _, by omega, hb0, fun l z => ?_⟩
   simp only [hm]
   by_cases e : l = verbB k
   · subst e
     rw [kindU_verb hk, if_pos ⟨by omega, by rw [if_pos rfl]⟩]
     exact atKey_put_same hD (by simp [WideAt.IsKeyLit]) _ _
   · rw [atKey_put_other (fun h => e (by injection h)), hat l z]
     have hne : QJ l ≠ k := fun h => e ((kindU_eq hk).1 h)
     rw [if_neg (show ¬ 2 * QJ l = 2 * k by omega)]
 · intro h
   simp only [hm] at h
   rw [if_neg (by omega)] at h
   exact hI.t10 h
 · intro h
   simp only [hm] at h
   rw [if_neg (by omega)] at h
   exact hI.t0 h
theorem st_17 (hs : listed.size = 19) (hI : RIL n0 w0 listed a w) (hl : listed.getD 17 true = false) (h0 : listed.getD 0 false = true) (hd : o.dst = some 10) (hop : o.op = .move (.tmp 1)) :
 o.wp Tryz.prog a w (RIL n0 w0 (listed.setIfInBounds 17 true)) Q := by
 unfold Oper.wp
 have hc := cntF_set hl
 have hm : ∀ j, (listed.setIfInBounds 17 true).getD j false = if j = 17 then true else listed.getD j false := fun j => getD_set (by omega)
 have hz := hI.size
 obtain ⟨b, n, D, t1, hown, hD, hle, hb0, hat⟩ := hI.map h0
 have e1 : (execOp a.eval o).run Tryz.prog w = .ok (.value (.map (some b))) w := by
  simp [execOp, hop, go_sem, t1]
 rw [e1, Oper.upon_value, hd]
 have h18 := hI.last (getD_tf (by omega) hl)
 refine ⟨hI.defers, by simpa [Act.put] using hz, hI.below, ?_, ?_, ?_, ?_, ?_, ?_⟩
 · intro j hj1 hj8 hj
   simp only [hm] at hj
   rw [if_neg (by omega)] at hj
   rw [tm_put _ _ _ _ (by omega)]
   by_cases e : j + 1 = 10
   · omega
   · rw [if_neg e]; exact hI.calls j hj1 hj8 hj
 · intro h
   simp only [hm] at h
   rw [if_neg (by omega), h0] at h
   cases h
 · intro h
   simp only [hm] at h
   simp at h
 · intro _
   refine ⟨b, n, D, ?_, hown, hD, by omega, hb0, fun l z => ?_⟩
   · rw [tm_put _ _ _ _ (by omega), if_neg (by omega)]; exact t1
   · rw [hat l z]
     simp only [hm]
     rw [if_neg (show ¬ 2 * QJ l = 17 by omega)]
 · intro _
   rw [tm_put _ _ _ _ (by omega), tm_put _ _ _ _ (by omega), if_pos rfl, if_neg (by omega), t1]
 · intro h
   simp only [hm] at h
   rw [if_neg (by omega), h18] at h
   cases h
theorem st_18 (hs : listed.size = 19) (hI : RIL n0 w0 listed a w) (hl : listed.getD 18 true = false) (h17 : listed.getD 17 false = true) (hd : o.dst = some 0) (hop : o.op = .assign (.tmp 10)) :
 o.wp Tryz.prog a w (RIL n0 w0 (listed.setIfInBounds 18 true)) Q := by
 unfold Oper.wp
 have hc := cntF_set hl
 have hm : ∀ j, (listed.setIfInBounds 18 true).getD j false = if j = 18 then true else listed.getD j false := fun j => getD_set (by omega)
 have hz := hI.size
 have h10 : a.tmps[10]? = some (a.eval (.tmp 10)) := by
  show _ = some (a.tmps.getD 10 undef)
  rw [Array.getD_eq_getD_getElem?, Array.getElem?_eq_getElem (by omega)]
  rfl
 have e1 : (execOp a.eval o).run Tryz.prog w = .ok (.value (a.eval (.tmp 10))) w := by
  simp [execOp, hop, go_sem]
 rw [e1, Oper.upon_value, hd]
 refine ⟨hI.defers, by simpa [Act.put] using hz, hI.below, ?_, ?_, ?_, ?_, ?_, ?_⟩
 · intro j hj1 hj8 hj
   simp only [hm] at hj
   rw [if_neg (by omega)] at hj
   rw [tm_put _ _ _ _ (by omega), if_neg (by omega)]
   exact hI.calls j hj1 hj8 hj
 · intro h
   simp only [hm] at h ⊢
   rw [if_neg (by omega)] at h
   have := (hI.first h).2
   rw [h17] at this
   cases this
 · intro h
   simp only [hm] at h
   rw [if_neg (by omega), h17] at h
   cases h
 · intro h
   simp only [hm] at h
   rw [if_neg (by omega)] at h
   obtain ⟨b, n, D, t1, hown, hD, hle, hb0, hat⟩ := hI.map h
   refine ⟨b, n, D, ?_, hown, hD, by omega, hb0, fun l z => ?_⟩
   · rw [tm_put _ _ _ _ (by omega), if_neg (by omega)]; exact t1
   · rw [hat l z]
     simp only [hm]
     by_cases e : 2 * QJ l = 18
     · have := kindU_le l; omega
     · rw [if_neg e]
 · intro _
   rw [tm_put _ _ _ _ (by omega), tm_put _ _ _ _ (by omega), if_neg (by omega), if_neg (by omega)]
   exact hI.t10 h17
 · intro _
   rw [tm_put _ _ _ _ (by omega), tm_put _ _ _ _ (by omega), if_pos rfl, if_neg (by omega), h10]
end
theorem st_any (Q : Exit → Act → World → Prop) (n0 : Nat) (w0 : World) (hn0 : ∀ w, Below n0 w0 w → n0 ≤ w.heap.size) (listed : Array Bool) (a : Act) (w : World) (i : Nat) (hs : listed.size = rulesOps.size) (hI : RIL n0 w0 listed a w) (hi : i ∈ Region.ready .any rulesOps listed) :
 wpOp Tryz.prog rulesOps Q i (fun a' w' => RIL n0 w0 (listed.setIfInBounds i true) a' w') a w := by
 rw [ops_size] at hs
 obtain ⟨hl, o, ho, hafter⟩ := ready_of hi
 have hi19 : i < 19 := by have := (Array.getElem?_eq_some_iff.1 ho).1; rw [ops_size] at this; exact this
 have hn := hn0 w hI.below
 have key : i = 0 ∨ (∃ k, (1 ≤ k ∧ k ≤ 8) ∧ i = 2 * k - 1) ∨ (∃ k, (1 ≤ k ∧ k ≤ 8) ∧ i = 2 * k) ∨ i = 17 ∨ i = 18 := by
  by_cases h0 : i = 0
  · exact .inl h0
  · by_cases h17 : i = 17
    · exact .inr (.inr (.inr (.inl h17)))
    · by_cases h18 : i = 18
      · exact .inr (.inr (.inr (.inr h18)))
      · by_cases hp : i % 2 = 0
        · exact .inr (.inr (.inl ⟨i / 2, by omega, by omega⟩))
        · exact .inr (.inl ⟨(i + 1) / 2, by omega, by omega⟩)
 rcases key with rfl | ⟨k, hk, rfl⟩ | ⟨k, hk, rfl⟩ | rfl | rfl
 · obtain ⟨o', ho', h⟩ := op_0
   obtain rfl : o' = o := Option.some.inj (ho'.symm.trans ho)
   exact wpOp_of ho h.1 (st_0 hs hI hl hn h)
 · obtain ⟨o', ho', h⟩ := op_c k hk
   obtain rfl : o' = o := Option.some.inj (ho'.symm.trans ho)
   exact wpOp_of ho h.1 (st_c hk hs hI hl hn h)
 · obtain ⟨o', ho', h⟩ := op_i k hk
   obtain rfl : o' = o := Option.some.inj (ho'.symm.trans ho)
   obtain ⟨e0, he0, hb0, ho0⟩ := h.2.2.2.1
   obtain ⟨e1, he1, hb1, ho1⟩ := h.2.2.2.2
   have q0 := hafter e0 he0 hb0
   have q1 := hafter e1 he1 hb1
   rw [ho0] at q0
   rw [ho1] at q1
   exact wpOp_of ho h.1 (st_i hk hs hI hl hn q0 q1 h)
 · obtain ⟨o', ho', hg, hd, hop, e0, he0, hb0, ho0⟩ := op_17
   obtain rfl : o' = o := Option.some.inj (ho'.symm.trans ho)
   have q0 := hafter e0 he0 hb0
   rw [ho0] at q0
   exact wpOp_of ho hg (st_17 hs hI hl q0 hd hop)
 · obtain ⟨o', ho', hg, hd, hop, e0, he0, hb0, ho0⟩ := op_18
   obtain rfl : o' = o := Option.some.inj (ho'.symm.trans ho)
   have q0 := hafter e0 he0 hb0
   rw [ho0] at q0
   exact wpOp_of ho hg (st_18 hs hI hl q0 hd hop)
theorem rules_any (w : World) :
 Calls Tryz.prog 71 #[] w fun e w' => ∃ b n D, e = .returned (.map (some b)) ∧ w'.ownsMap Tryz.prog 9 fnE b n D ∧ RulesD D ∧ w.heap.size ≤ b ∧ Below w.heap.size w w' := by
 have hmx : Tryz.prog.follows .mixedOrders = true := by kernel_rfl
 have ST := Hi (fun Q => st_any Q w.heap.size w (fun w1 h => h.size))
 go_enter Tryz.func71, Tryz.ntmps71
 go_wp2_with fail
 rename_i K hK
 refine wp_region_any (ops := rulesOps) hmx ?_
 refine wpAny_inv (RIL w.heap.size w) (ST.out _) ?done rulesOps.size _ _ _ (by rw [Array.size_replicate]) ?cnt ?start
 case cnt =>
  unfold cntF
  simp
 case start =>
  refine ⟨rfl, rfl, (Below.refl _ _).drew, ?_, ?_, ?_, ?_, ?_, ?_⟩
  · intro k _ _ h; rw [ZU] at h; cases h
  · intro _; exact ⟨fun k _ _ => ZU _ _, ZU _ _⟩
  · intro _; exact ZU _ _
  · intro h; rw [ZU] at h; cases h
  · intro h; rw [ZU] at h; cases h
  · intro h; rw [ZU] at h; cases h
 case done =>
  intro listed a w1 hs hI hr
  have hall : ∀ i, i < 19 → listed.getD i false = true := fun i hi => all_listed hs hr ops_before 19 i hi (by rw [ops_size]; exact hi)
  obtain ⟨b, n, D, t1, hown, _, _, hb0, hat⟩ := hI.map (hall 0 (by omega))
  have t10 := hI.t10 (hall 17 (by omega))
  have t0 := hI.t0 (hall 18 (by omega))
  rw [t10, t1] at t0
  refine hK a w1 ?_
  have hD : RulesD D := fun l z => by
   rw [hat l z]
   by_cases h0 : QJ l = 0
   · rw [if_neg (fun h => h.1 h0), if_neg (fun h => h h0)]
   · rw [if_pos ⟨h0, hall _ (by have := kindU_le l; omega)⟩, if_pos h0]
  have hdf := hI.defers
  have hbl := hI.below
  clear hI ST hK K
  go_wp2_with fail
  refine bodyPost_ret (v := .map (some b)) (by simp [results, Tryz.results71, go_sem, t0]) hdf ⟨b, n, D, rfl, hown, hD, hb0, hbl⟩
theorem zeroFn7 (w : World) : (zeroValue 108).run Tryz.prog w = .ok .nilFunc w := by kernel_rfl
theorem look_rule {w : World} {b n : Nat} {D : DataW Unit} (hown : w.ownsMap Tryz.prog 9 fnE b n D) (hD : RulesD D) (u : List UInt8) (hu : u.length ≤ 1000000000) :
 (Instr.lookup 110 (.map (some b)) (.string ⟨u.toArray⟩) true).run Tryz.prog w = .ok (.tuple #[if QJ u = 0 then .nilFunc else .func (.func (ruleF (QJ u))) #[] #[], .bool (decide (QJ u ≠ 0))]) w := by
 obtain ⟨v, ps, hrun, hv⟩ := hown.look_ok keyS Tryz.underlying110 (zeroFn7 w) (zd := .nil) (zp := []) rfl (kS u hu)
 rw [hD u] at hv
 rw [hrun]
 by_cases h0 : QJ u = 0
 · rw [if_neg (fun h => h h0)] at hv
   obtain rfl := fnE_nil hv
   rw [if_pos h0, has_false_of_atKey (fun z => by rw [hD u z, if_neg (fun h => h h0)])]
   simp [h0]
 · rw [if_pos h0] at hv
   obtain rfl := fnE_fn hv
   rw [if_neg h0, has_true_of_atKey (fun z => by rw [hD u z, if_pos h0])]
   simp [h0]
end Go.Proofs.YtpgfnlhfciacoaaGreatDoor
