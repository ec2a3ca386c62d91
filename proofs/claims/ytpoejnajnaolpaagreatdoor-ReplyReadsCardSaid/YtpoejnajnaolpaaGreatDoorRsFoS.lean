/- resp: formOf: what its second region, which draws its order, yields. -/
import Derived.Test.YtpoejnajnaolpaaGreatDoorGh
import Derived.Test.YtpoejnajnaolpaaGreatDoorDrawn
namespace Go.Proofs.YtpoejnajnaolpaaGreatDoor
open Go.RowKit

noncomputable def foOps : Array Oper := ((Tryz.f33.body).bind (dfind 2)).getD #[]
theorem fo_size : foOps.size = 18 := by kernel_rfl
theorem fo_o0 : ∃ o, foOps[0]? = some o ∧ o.guard = none ∧ o.op = .move (.tmp 5) := ⟨_, by rfl, by rfl, by rfl⟩
theorem fo_o1 : ∃ o, foOps[1]? = some o ∧ o.guard = none ∧ o.op = .unOp .not 4 (.tmp 13) := ⟨_, by rfl, by rfl, by rfl⟩
theorem fo_o2 : ∃ o, foOps[2]? = some o ∧ o.guard = none ∧ o.op = .move (.tmp 14) := ⟨_, by rfl, by rfl, by rfl⟩
theorem fo_o3 : ∃ o, foOps[3]? = some o ∧ o.guard = some (2, false) ∧ o.op = .fieldAddr 62 (.tmp 4) 1 := ⟨_, by rfl, by rfl, by rfl⟩
theorem fo_o4 : ∃ o, foOps[4]? = some o ∧ o.guard = some (2, false) ∧ o.op = .load 39 (.tmp 16) := ⟨_, by rfl, by rfl, by rfl⟩
theorem fo_o5 : ∃ o, foOps[5]? = some o ∧ o.guard = some (2, false) ∧ o.op = .load 27 (.tmp 1) := ⟨_, by rfl, by rfl, by rfl⟩
theorem fo_o6 : ∃ o, foOps[6]? = some o ∧ o.guard = some (2, false) ∧ o.op = .call { callee := .value (.tmp 17), args := #[(.tmp 18)], argTypes := #[27] } := ⟨_, by rfl, by rfl, by rfl⟩
theorem fo_o7 : ∃ o, foOps[7]? = some o ∧ o.guard = some (2, false) ∧ o.op = .unOp .not 4 (.tmp 19) := ⟨_, by rfl, by rfl, by rfl⟩
theorem fo_o8 : ∃ o, foOps[8]? = some o ∧ o.guard = none ∧ o.op = .pick (.tmp 15) (.const (Value.bool true)) (.tmp 20) := ⟨_, by rfl, by rfl, by rfl⟩
theorem fo_o9 : ∃ o, foOps[9]? = some o ∧ o.guard = none ∧ o.op = .move (.tmp 21) := ⟨_, by rfl, by rfl, by rfl⟩
theorem fo_o10 : ∃ o, foOps[10]? = some o ∧ o.guard = some (9, false) ∧ o.op = .load 27 (.tmp 1) := ⟨_, by rfl, by rfl, by rfl⟩
theorem fo_o11 : ∃ o, foOps[11]? = some o ∧ o.guard = some (9, false) ∧ o.op = .fieldAddr 62 (.tmp 4) 0 := ⟨_, by rfl, by rfl, by rfl⟩
theorem fo_o12 : ∃ o, foOps[12]? = some o ∧ o.guard = some (9, false) ∧ o.op = .load 60 (.tmp 24) := ⟨_, by rfl, by rfl, by rfl⟩
theorem fo_o13 : ∃ o, foOps[13]? = some o ∧ o.guard = some (9, false) ∧ o.op = .load 27 (.tmp 1) := ⟨_, by rfl, by rfl, by rfl⟩
theorem fo_o14 : ∃ o, foOps[14]? = some o ∧ o.guard = some (9, false) ∧ o.op = .call { callee := .value (.tmp 25), args := #[(.tmp 26)], argTypes := #[27] } := ⟨_, by rfl, by rfl, by rfl⟩
theorem fo_o15 : ∃ o, foOps[15]? = some o ∧ o.guard = some (9, false) ∧ o.op = .call { callee := .value (.func 51), args := #[(.tmp 23), (.tmp 27)], argTypes := #[27, 27] } := ⟨_, by rfl, by rfl, by rfl⟩
theorem fo_o16 : ∃ o, foOps[16]? = some o ∧ o.guard = some (9, false) ∧ o.op = .unOp .not 4 (.tmp 28) := ⟨_, by rfl, by rfl, by rfl⟩
theorem fo_o17 : ∃ o, foOps[17]? = some o ∧ o.guard = none ∧ o.op = .pick (.tmp 22) (.const (Value.bool true)) (.tmp 29) := ⟨_, by rfl, by rfl, by rfl⟩
theorem fo_fit : dfits foOps (dahead foOps) 33 = true := by kernel_rfl
theorem dexec_callv {P : Program} {o : Oper} {ρ : Operand → Value} {x : Operand} {f : FuncId} {xs : Array Operand} {ts : Array TypeId} {args : Array Value} {w : World} (h : o.op = .call { callee := .value x, args := xs, argTypes := ts }) (hf : ρ x = .func (.func f) #[] #[]) (hr : (callFunc f (xs.map ρ)).run P w = .ok (.enter f args) w) : (execOp ρ o).run P w = .ok (.enter f args) w := by
  simp [execOp, h, hf, go_sem, hr]
/-- What the operations yield, where the fields don't fit. -/
def foV (va : Value) (b4 : Nat) (FF : FuncId) : Nat → Value
  | 0 => .bool true
  | 1 => .bool false
  | 2 => .bool false
  | 3 => .pointer (some ⟨b4, 1, none⟩)
  | 4 => .func (.func FF) #[] #[]
  | 5 => va
  | 6 => .bool false
  | 7 => .bool true
  | 8 => .bool true
  | 9 => .bool true
  | 10 => undef
  | 11 => undef
  | 12 => undef
  | 13 => undef
  | 14 => undef
  | 15 => undef
  | 16 => undef
  | 17 => .bool true
  | _ => undef
/-- What they yield, where the fields fit. -/
def fpV (va vb : Value) (b4 : Nat) (FF FO : FuncId) (q : Bool) : Nat → Value
  | 0 => .bool true
  | 1 => .bool false
  | 2 => .bool false
  | 3 => .pointer (some ⟨b4, 1, none⟩)
  | 4 => .func (.func FF) #[] #[]
  | 5 => va
  | 6 => .bool true
  | 7 => .bool false
  | 8 => .bool false
  | 9 => .bool false
  | 10 => va
  | 11 => .pointer (some ⟨b4, 0, none⟩)
  | 12 => .func (.func FO) #[] #[]
  | 13 => va
  | 14 => vb
  | 15 => .bool q
  | 16 => .bool (!q)
  | 17 => .bool (!q)
  | _ => undef
set_option maxRecDepth 100000 in
set_option maxHeartbeats 1000000 in
theorem fo_step (va : Value) (b4 : Nat) (FF : FuncId) (p1 : Value) (T : Array Value) (hT1 : T.getD 1 undef = p1) (hT4 : T.getD 4 undef = .pointer (some ⟨b4, 0, none⟩)) (hT5 : T.getD 5 undef = .bool true) (S : World → Prop)
    (HEF : ∀ args W, (callFunc FF args).run Tryz.prog W = .ok (.enter FF args) W)
    (L1 : ∀ W, S W → (Instr.loadAt 27 p1).run Tryz.prog W = .ok va W)
    (LF : ∀ W, S W → (Instr.loadAt 39 (.pointer (some ⟨b4, 1, none⟩))).run Tryz.prog W = .ok (.func (.func FF) #[] #[]) W)
    (FT : ∀ W, S W → Calls Tryz.prog FF #[va] W fun e w' => e = .returned (.bool false) ∧ S w') :
    ∀ i o, foOps[i]? = some o → ∀ (m : Nat → Bool) w', (∀ k ∈ dal (dahead foOps) i, m k = true) → m i = false → S w' → DStep Tryz.prog o (dval foOps (dahead foOps) (foV va b4 FF) T i) (foV va b4 FF) i S (fun _ _ => False) w' := by
  intro i o ho m w' _ _ hS
  have hi : i < 18 := by rw [← fo_size]; exact (Array.getElem?_eq_some_iff.1 ho).1
  rcases i with _ | _ | _ | _ | _ | _ | _ | _ | _ | _ | _ | _ | _ | _ | _ | _ | _ | _ | i
  · obtain ⟨o', ho', hg, hop⟩ := fo_o0
    obtain rfl := Option.some.inj (ho'.symm.trans ho)
    have r5 : dval foOps (dahead foOps) (foV va b4 FF) T 0 (.tmp 5) = .bool true := (show _ = T.getD 5 undef by kernel_rfl).trans hT5
    exact dstep_value (by simp [dwant, hg]) (show (execOp _ _).run Tryz.prog w' = .ok (.value (.bool true)) w' by simp [execOp, hop, go_sem, r5]) hS
  · obtain ⟨o', ho', hg, hop⟩ := fo_o1
    obtain rfl := Option.some.inj (ho'.symm.trans ho)
    have r13 : dval foOps (dahead foOps) (foV va b4 FF) T 1 (.tmp 13) = .bool true := by kernel_rfl
    exact dstep_value (by simp [dwant, hg]) (show (execOp _ _).run Tryz.prog w' = .ok (.value (.bool false)) w' by simp [execOp, hop, go_sem, r13]) hS
  · obtain ⟨o', ho', hg, hop⟩ := fo_o2
    obtain rfl := Option.some.inj (ho'.symm.trans ho)
    have r14 : dval foOps (dahead foOps) (foV va b4 FF) T 2 (.tmp 14) = .bool false := by kernel_rfl
    exact dstep_value (by simp [dwant, hg]) (show (execOp _ _).run Tryz.prog w' = .ok (.value (.bool false)) w' by simp [execOp, hop, go_sem, r14]) hS
  · obtain ⟨o', ho', hg, hop⟩ := fo_o3
    obtain rfl := Option.some.inj (ho'.symm.trans ho)
    have r4 : dval foOps (dahead foOps) (foV va b4 FF) T 3 (.tmp 4) = .pointer (some ⟨b4, 0, none⟩) := (show _ = T.getD 4 undef by kernel_rfl).trans hT4
    exact dstep_value (by simp [dwant, hg, foV]) (show (execOp _ _).run Tryz.prog w' = .ok (.value (.pointer (some ⟨b4, 1, none⟩))) w' by simp [execOp, hop, go_sem, r4]) hS
  · obtain ⟨o', ho', hg, hop⟩ := fo_o4
    obtain rfl := Option.some.inj (ho'.symm.trans ho)
    have r16 : dval foOps (dahead foOps) (foV va b4 FF) T 4 (.tmp 16) = .pointer (some ⟨b4, 1, none⟩) := by kernel_rfl
    exact dstep_value (by simp [dwant, hg, foV]) (dexec_load hop (by rw [r16]; exact LF _ hS)) hS
  · obtain ⟨o', ho', hg, hop⟩ := fo_o5
    obtain rfl := Option.some.inj (ho'.symm.trans ho)
    have r1 : dval foOps (dahead foOps) (foV va b4 FF) T 5 (.tmp 1) = p1 := (show _ = T.getD 1 undef by kernel_rfl).trans hT1
    exact dstep_value (by simp [dwant, hg, foV]) (dexec_load hop (by rw [r1]; exact L1 _ hS)) hS
  · obtain ⟨o', ho', hg, hop⟩ := fo_o6
    obtain rfl := Option.some.inj (ho'.symm.trans ho)
    have r17 : dval foOps (dahead foOps) (foV va b4 FF) T 6 (.tmp 17) = .func (.func FF) #[] #[] := by kernel_rfl
    have r18 : dval foOps (dahead foOps) (foV va b4 FF) T 6 (.tmp 18) = va := by kernel_rfl
    exact dstep_enter (by simp [dwant, hg, foV]) (dexec_callv hop r17 (by simp [r18, HEF])) (FT _ hS)
  · obtain ⟨o', ho', hg, hop⟩ := fo_o7
    obtain rfl := Option.some.inj (ho'.symm.trans ho)
    have r19 : dval foOps (dahead foOps) (foV va b4 FF) T 7 (.tmp 19) = .bool false := by kernel_rfl
    exact dstep_value (by simp [dwant, hg, foV]) (show (execOp _ _).run Tryz.prog w' = .ok (.value (.bool true)) w' by simp [execOp, hop, go_sem, r19]) hS
  · obtain ⟨o', ho', hg, hop⟩ := fo_o8
    obtain rfl := Option.some.inj (ho'.symm.trans ho)
    have r15 : dval foOps (dahead foOps) (foV va b4 FF) T 8 (.tmp 15) = .bool false := by kernel_rfl
    have r20 : dval foOps (dahead foOps) (foV va b4 FF) T 8 (.tmp 20) = .bool true := by kernel_rfl
    exact dstep_value (by simp [dwant, hg]) (show (execOp _ _).run Tryz.prog w' = .ok (.value (.bool true)) w' by simp [execOp, hop, go_sem, r15, r20]) hS
  · obtain ⟨o', ho', hg, hop⟩ := fo_o9
    obtain rfl := Option.some.inj (ho'.symm.trans ho)
    have r21 : dval foOps (dahead foOps) (foV va b4 FF) T 9 (.tmp 21) = .bool true := by kernel_rfl
    exact dstep_value (by simp [dwant, hg]) (show (execOp _ _).run Tryz.prog w' = .ok (.value (.bool true)) w' by simp [execOp, hop, go_sem, r21]) hS
  · obtain ⟨o', ho', hg, hop⟩ := fo_o10
    obtain rfl := Option.some.inj (ho'.symm.trans ho)
    exact dstep_off (by simp [dwant, hg, foV]) rfl hS
  · obtain ⟨o', ho', hg, hop⟩ := fo_o11
    obtain rfl := Option.some.inj (ho'.symm.trans ho)
    exact dstep_off (by simp [dwant, hg, foV]) rfl hS
  · obtain ⟨o', ho', hg, hop⟩ := fo_o12
    obtain rfl := Option.some.inj (ho'.symm.trans ho)
    exact dstep_off (by simp [dwant, hg, foV]) rfl hS
  · obtain ⟨o', ho', hg, hop⟩ := fo_o13
    obtain rfl := Option.some.inj (ho'.symm.trans ho)
    exact dstep_off (by simp [dwant, hg, foV]) rfl hS
  · obtain ⟨o', ho', hg, hop⟩ := fo_o14
    obtain rfl := Option.some.inj (ho'.symm.trans ho)
    exact dstep_off (by simp [dwant, hg, foV]) rfl hS
  · obtain ⟨o', ho', hg, hop⟩ := fo_o15
    obtain rfl := Option.some.inj (ho'.symm.trans ho)
    exact dstep_off (by simp [dwant, hg, foV]) rfl hS
  · obtain ⟨o', ho', hg, hop⟩ := fo_o16
    obtain rfl := Option.some.inj (ho'.symm.trans ho)
    exact dstep_off (by simp [dwant, hg, foV]) rfl hS
  · obtain ⟨o', ho', hg, hop⟩ := fo_o17
    obtain rfl := Option.some.inj (ho'.symm.trans ho)
    have r22 : dval foOps (dahead foOps) (foV va b4 FF) T 17 (.tmp 22) = .bool true := by kernel_rfl
    have r29 : dval foOps (dahead foOps) (foV va b4 FF) T 17 (.tmp 29) = undef := by kernel_rfl
    exact dstep_value (by simp [dwant, hg]) (show (execOp _ _).run Tryz.prog w' = .ok (.value (.bool true)) w' by simp [execOp, hop, go_sem, r22, r29]) hS
  · omega
set_option maxRecDepth 100000 in
set_option maxHeartbeats 1000000 in
theorem fp_step (va vb : Value) (b4 : Nat) (FF FO : FuncId) (q : Bool) (p1 : Value) (T : Array Value) (hT1 : T.getD 1 undef = p1) (hT4 : T.getD 4 undef = .pointer (some ⟨b4, 0, none⟩)) (hT5 : T.getD 5 undef = .bool true) (S : World → Prop)
    (HEF : ∀ args W, (callFunc FF args).run Tryz.prog W = .ok (.enter FF args) W)
    (HEO : ∀ args W, (callFunc FO args).run Tryz.prog W = .ok (.enter FO args) W)
    (L1 : ∀ W, S W → (Instr.loadAt 27 p1).run Tryz.prog W = .ok va W)
    (LF : ∀ W, S W → (Instr.loadAt 39 (.pointer (some ⟨b4, 1, none⟩))).run Tryz.prog W = .ok (.func (.func FF) #[] #[]) W)
    (FT : ∀ W, S W → Calls Tryz.prog FF #[va] W fun e w' => e = .returned (.bool true) ∧ S w')
    (LO : ∀ W, S W → (Instr.loadAt 60 (.pointer (some ⟨b4, 0, none⟩))).run Tryz.prog W = .ok (.func (.func FO) #[] #[]) W)
    (OW : ∀ W, S W → Calls Tryz.prog FO #[va] W fun e w' => e = .returned vb ∧ S w')
    (SM : ∀ W, S W → Calls Tryz.prog 51 #[va, vb] W fun e w' => e = .returned (.bool q) ∧ S w') :
    ∀ i o, foOps[i]? = some o → ∀ (m : Nat → Bool) w', (∀ k ∈ dal (dahead foOps) i, m k = true) → m i = false → S w' → DStep Tryz.prog o (dval foOps (dahead foOps) (fpV va vb b4 FF FO q) T i) (fpV va vb b4 FF FO q) i S (fun _ _ => False) w' := by
  intro i o ho m w' _ _ hS
  have hi : i < 18 := by rw [← fo_size]; exact (Array.getElem?_eq_some_iff.1 ho).1
  rcases i with _ | _ | _ | _ | _ | _ | _ | _ | _ | _ | _ | _ | _ | _ | _ | _ | _ | _ | i
  · obtain ⟨o', ho', hg, hop⟩ := fo_o0
    obtain rfl := Option.some.inj (ho'.symm.trans ho)
    have r5 : dval foOps (dahead foOps) (fpV va vb b4 FF FO q) T 0 (.tmp 5) = .bool true := (show _ = T.getD 5 undef by kernel_rfl).trans hT5
    exact dstep_value (by simp [dwant, hg]) (show (execOp _ _).run Tryz.prog w' = .ok (.value (.bool true)) w' by simp [execOp, hop, go_sem, r5]) hS
  · obtain ⟨o', ho', hg, hop⟩ := fo_o1
    obtain rfl := Option.some.inj (ho'.symm.trans ho)
    have r13 : dval foOps (dahead foOps) (fpV va vb b4 FF FO q) T 1 (.tmp 13) = .bool true := by kernel_rfl
    exact dstep_value (by simp [dwant, hg]) (show (execOp _ _).run Tryz.prog w' = .ok (.value (.bool false)) w' by simp [execOp, hop, go_sem, r13]) hS
  · obtain ⟨o', ho', hg, hop⟩ := fo_o2
    obtain rfl := Option.some.inj (ho'.symm.trans ho)
    have r14 : dval foOps (dahead foOps) (fpV va vb b4 FF FO q) T 2 (.tmp 14) = .bool false := by kernel_rfl
    exact dstep_value (by simp [dwant, hg]) (show (execOp _ _).run Tryz.prog w' = .ok (.value (.bool false)) w' by simp [execOp, hop, go_sem, r14]) hS
  · obtain ⟨o', ho', hg, hop⟩ := fo_o3
    obtain rfl := Option.some.inj (ho'.symm.trans ho)
    have r4 : dval foOps (dahead foOps) (fpV va vb b4 FF FO q) T 3 (.tmp 4) = .pointer (some ⟨b4, 0, none⟩) := (show _ = T.getD 4 undef by kernel_rfl).trans hT4
    exact dstep_value (by simp [dwant, hg, fpV]) (show (execOp _ _).run Tryz.prog w' = .ok (.value (.pointer (some ⟨b4, 1, none⟩))) w' by simp [execOp, hop, go_sem, r4]) hS
  · obtain ⟨o', ho', hg, hop⟩ := fo_o4
    obtain rfl := Option.some.inj (ho'.symm.trans ho)
    have r16 : dval foOps (dahead foOps) (fpV va vb b4 FF FO q) T 4 (.tmp 16) = .pointer (some ⟨b4, 1, none⟩) := by kernel_rfl
    exact dstep_value (by simp [dwant, hg, fpV]) (dexec_load hop (by rw [r16]; exact LF _ hS)) hS
  · obtain ⟨o', ho', hg, hop⟩ := fo_o5
    obtain rfl := Option.some.inj (ho'.symm.trans ho)
    have r1 : dval foOps (dahead foOps) (fpV va vb b4 FF FO q) T 5 (.tmp 1) = p1 := (show _ = T.getD 1 undef by kernel_rfl).trans hT1
    exact dstep_value (by simp [dwant, hg, fpV]) (dexec_load hop (by rw [r1]; exact L1 _ hS)) hS
  · obtain ⟨o', ho', hg, hop⟩ := fo_o6
    obtain rfl := Option.some.inj (ho'.symm.trans ho)
    have r17 : dval foOps (dahead foOps) (fpV va vb b4 FF FO q) T 6 (.tmp 17) = .func (.func FF) #[] #[] := by kernel_rfl
    have r18 : dval foOps (dahead foOps) (fpV va vb b4 FF FO q) T 6 (.tmp 18) = va := by kernel_rfl
    exact dstep_enter (by simp [dwant, hg, fpV]) (dexec_callv hop r17 (by simp [r18, HEF])) (FT _ hS)
  · obtain ⟨o', ho', hg, hop⟩ := fo_o7
    obtain rfl := Option.some.inj (ho'.symm.trans ho)
    have r19 : dval foOps (dahead foOps) (fpV va vb b4 FF FO q) T 7 (.tmp 19) = .bool true := by kernel_rfl
    exact dstep_value (by simp [dwant, hg, fpV]) (show (execOp _ _).run Tryz.prog w' = .ok (.value (.bool false)) w' by simp [execOp, hop, go_sem, r19]) hS
  · obtain ⟨o', ho', hg, hop⟩ := fo_o8
    obtain rfl := Option.some.inj (ho'.symm.trans ho)
    have r15 : dval foOps (dahead foOps) (fpV va vb b4 FF FO q) T 8 (.tmp 15) = .bool false := by kernel_rfl
    have r20 : dval foOps (dahead foOps) (fpV va vb b4 FF FO q) T 8 (.tmp 20) = .bool false := by kernel_rfl
    exact dstep_value (by simp [dwant, hg]) (show (execOp _ _).run Tryz.prog w' = .ok (.value (.bool false)) w' by simp [execOp, hop, go_sem, r15, r20]) hS
  · obtain ⟨o', ho', hg, hop⟩ := fo_o9
    obtain rfl := Option.some.inj (ho'.symm.trans ho)
    have r21 : dval foOps (dahead foOps) (fpV va vb b4 FF FO q) T 9 (.tmp 21) = .bool false := by kernel_rfl
    exact dstep_value (by simp [dwant, hg]) (show (execOp _ _).run Tryz.prog w' = .ok (.value (.bool false)) w' by simp [execOp, hop, go_sem, r21]) hS
  · obtain ⟨o', ho', hg, hop⟩ := fo_o10
    obtain rfl := Option.some.inj (ho'.symm.trans ho)
    have r1 : dval foOps (dahead foOps) (fpV va vb b4 FF FO q) T 10 (.tmp 1) = p1 := (show _ = T.getD 1 undef by kernel_rfl).trans hT1
    exact dstep_value (by simp [dwant, hg, fpV]) (dexec_load hop (by rw [r1]; exact L1 _ hS)) hS
  · obtain ⟨o', ho', hg, hop⟩ := fo_o11
    obtain rfl := Option.some.inj (ho'.symm.trans ho)
    have r4 : dval foOps (dahead foOps) (fpV va vb b4 FF FO q) T 11 (.tmp 4) = .pointer (some ⟨b4, 0, none⟩) := (show _ = T.getD 4 undef by kernel_rfl).trans hT4
    exact dstep_value (by simp [dwant, hg, fpV]) (show (execOp _ _).run Tryz.prog w' = .ok (.value (.pointer (some ⟨b4, 0, none⟩))) w' by simp [execOp, hop, go_sem, r4]) hS
  · obtain ⟨o', ho', hg, hop⟩ := fo_o12
    obtain rfl := Option.some.inj (ho'.symm.trans ho)
    have r24 : dval foOps (dahead foOps) (fpV va vb b4 FF FO q) T 12 (.tmp 24) = .pointer (some ⟨b4, 0, none⟩) := by kernel_rfl
    exact dstep_value (by simp [dwant, hg, fpV]) (dexec_load hop (by rw [r24]; exact LO _ hS)) hS
  · obtain ⟨o', ho', hg, hop⟩ := fo_o13
    obtain rfl := Option.some.inj (ho'.symm.trans ho)
    have r1 : dval foOps (dahead foOps) (fpV va vb b4 FF FO q) T 13 (.tmp 1) = p1 := (show _ = T.getD 1 undef by kernel_rfl).trans hT1
    exact dstep_value (by simp [dwant, hg, fpV]) (dexec_load hop (by rw [r1]; exact L1 _ hS)) hS
  · obtain ⟨o', ho', hg, hop⟩ := fo_o14
    obtain rfl := Option.some.inj (ho'.symm.trans ho)
    have r25 : dval foOps (dahead foOps) (fpV va vb b4 FF FO q) T 14 (.tmp 25) = .func (.func FO) #[] #[] := by kernel_rfl
    have r26 : dval foOps (dahead foOps) (fpV va vb b4 FF FO q) T 14 (.tmp 26) = va := by kernel_rfl
    exact dstep_enter (by simp [dwant, hg, fpV]) (dexec_callv hop r25 (by simp [r26, HEO])) (OW _ hS)
  · obtain ⟨o', ho', hg, hop⟩ := fo_o15
    obtain rfl := Option.some.inj (ho'.symm.trans ho)
    have r23 : dval foOps (dahead foOps) (fpV va vb b4 FF FO q) T 15 (.tmp 23) = va := by kernel_rfl
    have r27 : dval foOps (dahead foOps) (fpV va vb b4 FF FO q) T 15 (.tmp 27) = vb := by kernel_rfl
    exact dstep_enter (by simp [dwant, hg, fpV]) (dexec_call hop rfl (by simp [go_sem, r23, r27])) (SM _ hS)
  · obtain ⟨o', ho', hg, hop⟩ := fo_o16
    obtain rfl := Option.some.inj (ho'.symm.trans ho)
    have r28 : dval foOps (dahead foOps) (fpV va vb b4 FF FO q) T 16 (.tmp 28) = .bool q := by kernel_rfl
    exact dstep_value (by simp [dwant, hg, fpV]) (show (execOp _ _).run Tryz.prog w' = .ok (.value (.bool (!q))) w' by simp [execOp, hop, go_sem, r28]) hS
  · obtain ⟨o', ho', hg, hop⟩ := fo_o17
    obtain rfl := Option.some.inj (ho'.symm.trans ho)
    have r22 : dval foOps (dahead foOps) (fpV va vb b4 FF FO q) T 17 (.tmp 22) = .bool false := by kernel_rfl
    have r29 : dval foOps (dahead foOps) (fpV va vb b4 FF FO q) T 17 (.tmp 29) = .bool (!q) := by kernel_rfl
    exact dstep_value (by simp [dwant, hg]) (show (execOp _ _).run Tryz.prog w' = .ok (.value (.bool (!q))) w' by simp [execOp, hop, go_sem, r22, r29]) hS
  · omega
theorem fo_put (va : Value) (b4 : Nat) (FF : FuncId) (T : Array Value) : dputN foOps (foV va b4 FF) T 18 = ((((((((((((((((((T.setIfInBounds 13 (.bool true)).setIfInBounds 14 (.bool false)).setIfInBounds 15 (.bool false)).setIfInBounds 16 (.pointer (some ⟨b4, 1, none⟩))).setIfInBounds 17 (.func (.func FF) #[] #[])).setIfInBounds 18 (va)).setIfInBounds 19 (.bool false)).setIfInBounds 20 (.bool true)).setIfInBounds 21 (.bool true)).setIfInBounds 22 (.bool true)).setIfInBounds 23 (undef)).setIfInBounds 24 (undef)).setIfInBounds 25 (undef)).setIfInBounds 26 (undef)).setIfInBounds 27 (undef)).setIfInBounds 28 (undef)).setIfInBounds 29 (undef)).setIfInBounds 30 (.bool true)) := by kernel_rfl
theorem fp_put (va vb : Value) (b4 : Nat) (FF FO : FuncId) (q : Bool) (T : Array Value) : dputN foOps (fpV va vb b4 FF FO q) T 18 = ((((((((((((((((((T.setIfInBounds 13 (.bool true)).setIfInBounds 14 (.bool false)).setIfInBounds 15 (.bool false)).setIfInBounds 16 (.pointer (some ⟨b4, 1, none⟩))).setIfInBounds 17 (.func (.func FF) #[] #[])).setIfInBounds 18 (va)).setIfInBounds 19 (.bool true)).setIfInBounds 20 (.bool false)).setIfInBounds 21 (.bool false)).setIfInBounds 22 (.bool false)).setIfInBounds 23 (va)).setIfInBounds 24 (.pointer (some ⟨b4, 0, none⟩))).setIfInBounds 25 (.func (.func FO) #[] #[])).setIfInBounds 26 (va)).setIfInBounds 27 (vb)).setIfInBounds 28 (.bool q)).setIfInBounds 29 (.bool (!q))).setIfInBounds 30 (.bool (!q))) := by kernel_rfl
end Go.Proofs.YtpoejnajnaolpaaGreatDoor
