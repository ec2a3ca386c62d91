/- index: Remove. -/
import Derived.Test.YtefodmbaknedkaaIxB
import Derived.Test.YtefodmbaknedkaaVh
import Derived.Laws.CopyOwn
import Derived.Laws.CopyRow
namespace Go.Proofs.Ytefodmbaknedkaa
open Go.RowKit

/-- copy into a row that is known whole, as a step of a region that draws: the row behind it, all else as it was. -/
theorem step_copy_col {P : Program} {ops : Array Oper} {o : Oper} {a : Act} {w : World} {K : Act → World → Prop} {Q : Exit → Act → World → Prop} {E : Prop} (hgd : o.guard = none) (d s : Operand) (dT sT : TypeId)
    (ho : o.op = .call { callee := .builtin .copy, args := #[d, s], argTypes := #[dT, sT] }) (elem : TypeId) (hu : P.underlying dT = some (.slice elem)) (hsz : (P.info? elem).map (·.size) = some 1)
    (dp sp : Option Addr) (dLen dCap sLen sCap : Nat) (hd : a.eval d = .slice dp dLen dCap) (hs : a.eval s = .slice sp sLen sCap)
    (g off : Nat) (cur : List Value) (t : TypeId) (hg : w.heap[g]? = some (.cells cur.toArray t (0, 0))) (cs : List Value) (m : Nat) (hm : cs.length = m) (hn : cs.length = Nat.min sLen dLen)
    (hpos : 0 < cs.length → dp = some ⟨g, off, none⟩ ∧ ∃ ad, sp = some ad ∧ ∀ j v, cs[j]? = some v → w.cell? (ad.add j) = some v)
    (hfit : off + cs.length ≤ cur.length) (h1 : ∀ v ∈ cs, v.oneCell' = true)
    (h : ∀ w', Hid (w'.heap[g]? = some (.cells (splice cur off cs).toArray t (0, 0))) → w.grownBy w' (some g) → K (a.put o.dst (.int .i64 (m : Int))) w') :
    if Region.wanted o (yielded ops a.tmps) = true then Oper.wp P o a w K Q else E := by
  subst hm
  have hw : Region.wanted o (yielded ops a.tmps) = true := by simp [Region.wanted, hgd]
  rw [if_pos hw]
  by_cases h0 : cs.length = 0
  · obtain rfl : cs = [] := List.eq_nil_of_length_eq_zero h0
    have hrun := run_copy_none (P := P) w dT sT o.type elem dp sp dLen dCap sLen sCap hu hsz (by simpa using hn.symm)
    unfold Oper.wp
    simp [execOp, ho, resolve, invoke, builtin, hd, hs, hrun, Result.andThen]
    exact h w (show _ = _ by simpa [splice] using hg) (World.grownBy.refl w _)
  · obtain ⟨rfl, ad, rfl, hsrc⟩ := hpos (by omega)
    have hrun := run_copy_row (P := P) w dT sT o.type elem g off dLen dCap ad sLen sCap cur.toArray t cs hu hsz hg hn hsrc (by simpa using hfit) h1
    unfold Oper.wp
    simp [execOp, ho, resolve, invoke, builtin, hd, hs, hrun, Result.andThen]
    refine h _ (show _ = _ by simpa [splice] using setRow_heap w g _ _ t _ hg) ⟨rfl, rfl, rfl, by simp [World.setRow], fun k hk hne => setRow_other w g k _ (fun e => hne (by rw [e]))⟩


theorem sizeU (w : World) : (sizeOf (Try.prog.elem 22)).run Try.prog w = .ok 1 w := by kernel_rfl
theorem undU : Try.prog.underlying 22 = some (.slice (Try.prog.elem 22)) := by kernel_rfl
/-- The address of [k:] in a row of its own. -/
def adrU (r c k : Nat) : Option Addr := if c = k then some ⟨r, 0, none⟩ else some ⟨r, k, none⟩
theorem sliceU_l (r n c k : Nat) (hk : k ≤ n) (W : World) : (Instr.slice 22 (.slice (some ⟨r, 0, none⟩) n c) (some (.int .i64 (k : Int))) none none).run Try.prog W = .ok (.slice (adrU r c k) (n - k) (c - k)) W := by
  rw [run_slice_l W _ _ n c undU .i64 k (by omega) (by omega), sizeU]
  have e : (if c = k then some (⟨r, 0, none⟩ : Addr) else (some (⟨r, 0, none⟩ : Addr)).map (·.add (k * 1))) = adrU r c k := by
    unfold adrU
    split
    · rfl
    · simp [Addr.add_lit]
  rw [← e]
  rfl
theorem sliceU_h (r n c k : Nat) (hk : k ≤ c) (W : World) : (Instr.slice 22 (.slice (some ⟨r, 0, none⟩) n c) none (some (.int .i64 (k : Int))) none).run Try.prog W = .ok (.slice (some ⟨r, 0, none⟩) k c) W := by
  rw [run_slice_h W _ _ n c undU .i64 k (by omega) (by omega), sizeU]
  have e : (if c = 0 then some (⟨r, 0, none⟩ : Addr) else (some (⟨r, 0, none⟩ : Addr)).map (·.add (0 * 1))) = some ⟨r, 0, none⟩ := by
    split
    · rfl
    · simp [Addr.add]
  conv => rhs; rw [← e]
  rfl
theorem sliceU_at (x : Value) (lo hi mx : Option Value) (W : World) : (Instr.sliceAt 22 x lo hi mx).run Try.prog W = (Instr.slice 22 x lo hi mx).run Try.prog W := run_sliceAt_slice W _ _ _ _ _ undU

variable {g r : Nat} {l : List Nat} {w w' : World}
theorem flatL_drop (l : List Nat) (k : Nat) : (flatL encU l).drop k = flatL encU (l.drop k) := by
  induction l generalizing k with
  | nil => simp [flatL]
  | cons x l ih =>
    cases k with
    | zero => rfl
    | succ k =>
      show (encU x ++ flatL encU l).drop (k + 1) = _
      simpa [encU] using ih k
theorem flatL_take (l : List Nat) (k : Nat) : (flatL encU l).take k = flatL encU (l.take k) := by
  induction l generalizing k with
  | nil => simp [flatL]
  | cons x l ih =>
    cases k with
    | zero => rfl
    | succ k =>
      show (encU x ++ flatL encU l).take (k + 1) = encU x ++ flatL encU (l.take k)
      simpa [encU] using ih k

/-- The cells behind the removed one, one place further ahead. -/
theorem Ix.removed (h : Ix g r l w) {u : Nat} (hu : u ∈ l) {c : Nat} {cur : Array Value}
    (hb : w.heap[g]? = some (.cells #[.slice (some ⟨r, 0, none⟩) l.length c] 70 (0, 0))) (hr : r ≠ g) (hc : l.length ≤ c) (hm : c ≤ maxLen) (hcs : cur.size = c) (hct : cur.toList.take l.length = flatL encU l)
    {w2 : World} (R2 : w2.heap[r]? = some (.cells (splice cur.toList (cntL l u) (flatL encU (l.drop (cntL l u + 1)))).toArray 35 (0, 0))) (G : Two g r w w2) (hg2 : w2.heap[g]? = w.heap[g]?) :
    Hid (Ix g r (remL l u) (w2.setCell ⟨g, 0, none⟩ (.slice (some ⟨r, 0, none⟩) (l.length - 1) c))) ∧ Hid (Two g r w (w2.setCell ⟨g, 0, none⟩ (.slice (some ⟨r, 0, none⟩) (l.length - 1) c))) := by
  obtain ⟨a, b, hl, h1, h2, hk⟩ := asc_split h.asc hu
  have hrem := rem_split hl h1 h2
  have hll : l.length = a.length + 1 + b.length := by rw [hl]; simp; omega
  have hlr : (remL l u).length = l.length - 1 := by rw [hrem, List.length_append]; omega
  have hd : l.drop (cntL l u + 1) = b := by rw [hk, hl]; simp
  have hta : cur.toList.take a.length = flatL encU a := by
    have := congrArg (List.take a.length) hct
    rw [List.take_take, Nat.min_eq_left (by omega), flatL_take] at this
    rw [this, hl]
    simp
  rw [hd, hk] at R2
  have hbl : (flatL encU b).length = b.length := by rw [flatL_length encU_len, Nat.mul_one]
  have hal : (flatL encU a).length = a.length := by rw [flatL_length encU_len, Nat.mul_one]
  have hcl2 : cur.toList.length = c := by simpa using hcs
  have hsp : (splice cur.toList a.length (flatL encU b)).length = c := by
    rw [length_splice _ _ _ (by rw [hbl, hcl2]; omega), hcl2]
  have htk : (splice cur.toList a.length (flatL encU b)).take (l.length - 1) = flatL encU (remL l u) := by
    unfold splice
    rw [hta, ← List.append_assoc, List.take_append_of_le_length (by rw [List.length_append, hal, hbl]; omega), List.take_of_length_le (by rw [List.length_append, hal, hbl]; omega), hrem, flatL_append]
  have hb3 := heap_set (v' := .slice (some ⟨r, 0, none⟩) (l.length - 1) c) (hg2.trans hb)
  have hR3 : (w2.setCell ⟨g, 0, none⟩ (.slice (some ⟨r, 0, none⟩) (l.length - 1) c)).heap[r]? = _ := (Below.heap_setCell _ _ _ _ (fun e => hr e)).trans R2
  refine ⟨⟨⟨some ⟨r, 0, none⟩, c, by rw [hlr]; exact hb3, ?_, .inr ⟨rfl, hr, (Array.getElem?_eq_some_iff.1 hR3).1⟩⟩, ?_, ?_, ?_⟩, G.trans ⟨rfl, rfl, rfl, by simp [World.setCell], fun k _ h1 _ => Below.heap_setCell _ _ _ _ (fun e => h1 e)⟩⟩
  · refine ⟨by rw [flatL_length encU_len], .inr ⟨r, c, _, rfl, Nat.zero_le _, hR3, by omega, hm, by simpa using hsp, ?_⟩⟩
    rw [hlr, Nat.mul_one]
    exact htk
  · exact h.asc.filter _
  · exact fun n hn => h.pos n (List.mem_filter.1 hn).1
  · have := h.len
    omega

set_option maxRecDepth 100000 in
set_option maxHeartbeats 1000000 in
theorem ixremove_any (u : Nat) (h : Ix g r l w) :
    Calls Try.prog 41 #[.pointer (some ⟨g, 0, none⟩), .int .u32 u] w fun e w' => e = .returned (.int .i64 (posL l u : Nat)) ∧ Hid (Ix g r (remL l u) w') ∧ Hid (Two g r w w') := by
  have PS := Lib.hid (pos_any u h)
  have HK := Lib.hid (fun w1 (hb : Below w.heap.size w w1) => h.below hb)
  by_cases hu : u ∈ l
  · have hp : posL l u = cntL l u + 1 := if_pos hu
    have hk := (at_cnt h.asc hu).1
    rw [hp] at PS ⊢
    have hll := h.len
    clear h hp
    go_enter Try.func41, Try.ntmps41
    go_wp2_with fail
    refine PS.out.mono ?_
    rintro e w1 ⟨rfl, hB⟩
    have h1 := HK.out w1 hB
    have HB := Lib.hid hB
    obtain ⟨A, c, hb, ho, hA⟩ := h1.st
    obtain ⟨rfl, hr, cur, hR, hcl, hm, hcs, hct⟩ : A = some ⟨r, 0, none⟩ ∧ r ≠ g ∧ ∃ cur : Array Value, w1.heap[r]? = some (.cells cur 35 (0, 0)) ∧ l.length ≤ c ∧ c ≤ maxLen ∧ cur.size = c ∧ cur.toList.take l.length = flatL encU l := by
      rcases ho.2 with ⟨_, h0⟩ | ⟨k, cap, cur, h2, _, h3, h4, h5, h6, h7⟩
      · omega
      · injection h2 with h2 _ h8
        rcases hA with ⟨h9, _⟩ | ⟨h9, h10, _⟩
        · rw [h9] at h2; cases h2
        · rw [h9] at h2
          have := Option.some.inj h2
          injection this with h11
          subst h11
          subst h8
          exact ⟨h9, h10, cur, h3, h4, h5, by rw [h6, Nat.mul_one], by rw [← h7, Nat.mul_one]⟩
    have hc := cell_of_row w1 g 0 _ _ _ hb
    have hf := Joins.unfrozen_of_block hb 0
    have RM := Lib.hid (fun w2 R2 G hg2 => h1.removed hu (c := c) (cur := cur) hb hr hcl hm hcs hct (w2 := w2) R2 G hg2)
    obtain ⟨k, hke⟩ : ∃ k, k = cntL l u := ⟨_, rfl⟩
    rw [← hke] at hk RM
    have HKE := Lib.hid hke
    have e0 : ((cntL l u + 1 : Nat) : Int) = (k : Int) + 1 := by omega
    rw [e0]
    have hs1 := fun W => sliceU_l r l.length c k (by omega) W
    have hs2 := fun W => sliceU_l r l.length c (k + 1) (by omega) W
    have hs3 := fun W => sliceU_h r l.length c (l.length - 1) (by omega) W
    have e1 : adrU r c k = some ⟨r, k, none⟩ := if_neg (by omega)
    rw [e1] at hs1
    rw [show ((k + 1 : Nat) : Int) = (k : Int) + 1 by omega] at hs2
    rw [show ((l.length - 1 : Nat) : Int) = (l.length : Int) - 1 by omega] at hs3
    have hse := fun x lo hi mx W => sliceU_at x lo hi mx W
    have HRW := Lib.hid (show w1.drew.heap[r]? = some (.cells cur.toList.toArray 35 (0, 0)) by rw [Array.toArray_toList]; exact hR)
    have H1 := Lib.hid (show (flatL encU (l.drop (k + 1))).length = l.length - (k + 1) by rw [flatL_length encU_len, Nat.mul_one, List.length_drop])
    have H2 := Lib.hid (show (flatL encU (l.drop (k + 1))).length = Nat.min (l.length - (k + 1)) (l.length - k) by rw [H1.out]; exact (Nat.min_eq_left (by omega)).symm)
    have HPOS := Lib.hid (show 0 < (flatL encU (l.drop (k + 1))).length → ∃ ad, adrU r c (k + 1) = some ad ∧ ∀ j v, (flatL encU (l.drop (k + 1)))[j]? = some v → w1.drew.cell? (ad.add j) = some v from fun h0 => by
      refine ⟨⟨r, k + 1, none⟩, if_neg (by rw [H1.out] at h0; omega), fun j v hj => ?_⟩
      rw [Addr.add_lit]
      have hjl : k + 1 + j < l.length := by
        have := (List.getElem?_eq_some_iff.1 hj).1
        rw [H1.out] at this
        omega
      have e3 := ho.cellAt (k + 1 + j) (by omega)
      rw [← flatL_drop, List.getElem?_drop] at hj
      exact e3.trans hj)
    have HFIT := Lib.hid (show k + (flatL encU (l.drop (k + 1))).length ≤ cur.toList.length by rw [H1.out, show cur.toList.length = c by simpa using hcs]; omega)
    have HSZ := Lib.hid (show (Try.prog.info? 35).map (·.size) = some 1 by kernel_rfl)
    have HONE := Lib.hid (one_flatU (l.drop (k + 1)))
    have KF := Lib.hid (fun w2 (G : w1.drew.grownBy w2 (some r)) => show w2.heap[g]? = some (.cells #[.slice (some ⟨r, 0, none⟩) l.length c] 70 (0, 0)) from (G.block g h1.lt (fun e => hr (Option.some.inj e).symm)).trans hb)
    have FIN := Lib.hid (fun w2 (R2 : w2.heap[r]? = some (.cells (splice cur.toList k (flatL encU (l.drop (k + 1)))).toArray 35 (0, 0))) (G : w1.drew.grownBy w2 (some r)) =>
      RM.out w2.drew R2 ((show Two g r w1 w1.drew from ⟨rfl, rfl, rfl, Nat.le_refl _, fun _ _ _ _ => rfl⟩).trans ((Two.of_grown G (fun _ => .inr rfl)).trans ⟨rfl, rfl, rfl, Nat.le_refl _, fun _ _ _ _ => rfl⟩)) ((G.block g h1.lt (fun e => hr (Option.some.inj e).symm)).trans rfl))
    have hpl : (0 : Int) < (k : Int) + 1 := by omega
    have ew1 : IntKind.i64.wrap (k : Int) = (k : Int) := IntWalk.i64_in _ (by omega)
    have ew2 : IntKind.i64.wrap ((l.length : Int) - 1) = (l.length : Int) - 1 := IntWalk.i64_in _ (by omega)
    have ew3 : IntKind.i64.wrap ((k : Int) + 1) = (k : Int) + 1 := IntWalk.i64_in _ (by omega)
    clear h1 hb ho hA hR hm hcs hct RM e0 hke PS HK e1
    generalize flatL encU (l.drop (k + 1)) = cs at *
    generalize cur.toList = cl at *
    generalize adrU r c (k + 1) = A2 at *
    go_wp2_with fail
    go_region_law (refine step_copy_col rfl (.tmp 17) (.tmp 23) 22 22 rfl 35 Try.underlying22 HSZ.out (some ⟨r, k, none⟩) A2 (l.length - k) (c - k) (l.length - (k + 1)) (c - (k + 1)) rfl rfl r k cl 35 HRW.out cs (l.length - (k + 1)) H1.out H2.out (fun h0 => ⟨rfl, HPOS.out h0⟩) HFIT.out HONE.out ?_; intro w2 R2 G2; have K2 := Lib.hid (KF.out w2 G2); have d1 := cell_of_row w2 g 0 _ _ _ K2.out; have f1 := Joins.unfrozen_of_block K2.out 0)
    all_goals
      have hE := Lib.hid (FIN.out w2 R2.out G2)
      clear R2 G2 K2 KF HPOS HRW H1 H2 HFIT FIN HONE HSZ
      go_wp2_with fail
      go_region
      go_wp2_with fail
      go_ret
      exact ⟨by rw [← HKE.out]; go_num, hE.out.1, (Two.of_below HB.out).trans hE.out.2.out⟩
  · have hp : posL l u = 0 := if_neg hu
    rw [hp] at PS ⊢
    rw [rem_not hu]
    clear h hp
    go_enter Try.func41, Try.ntmps41
    go_wp2_with fail
    refine PS.out.mono ?_
    rintro e w1 ⟨rfl, hB⟩
    have HB := Lib.hid hB
    clear hB PS
    go_wp2_with fail
    go_ret
    exact ⟨rfl, HK.out _ HB.out, Two.of_below HB.out⟩
theorem ixremove_nil (u : Nat) (w : World) :
    Calls Try.prog 41 #[.pointer none, .int .u32 u] w fun e w' => e = .returned (.int .i64 0) ∧ Below w.heap.size w w' := by
  have PS := Lib.hid (pos_nil u w)
  go_enter Try.func41, Try.ntmps41
  go_wp2_with fail
  refine PS.out.mono ?_
  rintro e w1 ⟨rfl, hB⟩
  have HB := Lib.hid hB
  clear hB PS
  go_wp2_with fail
  go_ret
  exact ⟨rfl, HB.out⟩
end Go.Proofs.Ytefodmbaknedkaa
