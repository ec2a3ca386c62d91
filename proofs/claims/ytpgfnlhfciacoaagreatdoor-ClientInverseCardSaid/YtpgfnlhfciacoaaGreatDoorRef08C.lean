/- The reference of layer 8: text: its regions that draw their order. -/
import Derived.Test.YtpgfnlhfciacoaaGreatDoorKb
import Derived.Test.YtpgfnlhfciacoaaGreatDoorGy
import Derived.Test.YtpgfnlhfciacoaaGreatDoorKa
namespace Go.Proofs.YtpgfnlhfciacoaaGreatDoor
open Go.RowKit

noncomputable def taOps : Array Oper := ((Tryz.f28.body).bind (dfind 1)).getD #[]
theorem ta_size : taOps.size = 8 := by kernel_rfl
theorem ta_o0 : ∃ o, taOps[0]? = some o ∧ o.guard = none ∧ o.op = .fieldAddr 26 (.tmp 1) 0 := ⟨_, by rfl, by rfl, by rfl⟩
theorem ta_o1 : ∃ o, taOps[1]? = some o ∧ o.guard = none ∧ o.op = .load 9 (.tmp 4) := ⟨_, by rfl, by rfl, by rfl⟩
theorem ta_o2 : ∃ o, taOps[2]? = some o ∧ o.guard = none ∧ o.op = .binOp .add 9 (.tmp 5) (.const (Value.string { data := #[32] })) 9 := ⟨_, by rfl, by rfl, by rfl⟩
theorem ta_o3 : ∃ o, taOps[3]? = some o ∧ o.guard = none ∧ o.op = .fieldAddr 26 (.tmp 1) 1 := ⟨_, by rfl, by rfl, by rfl⟩
theorem ta_o4 : ∃ o, taOps[4]? = some o ∧ o.guard = none ∧ o.op = .load 3 (.tmp 7) := ⟨_, by rfl, by rfl, by rfl⟩
theorem ta_o5 : ∃ o, taOps[5]? = some o ∧ o.guard = none ∧ o.op = .call { callee := .value (.func 50), args := #[(.tmp 8)], argTypes := #[3] } := ⟨_, by rfl, by rfl, by rfl⟩
theorem ta_o6 : ∃ o, taOps[6]? = some o ∧ o.guard = none ∧ o.op = .binOp .add 9 (.tmp 6) (.tmp 9) 9 := ⟨_, by rfl, by rfl, by rfl⟩
theorem ta_o7 : ∃ o, taOps[7]? = some o ∧ o.guard = none ∧ o.op = .assign (.tmp 10) := ⟨_, by rfl, by rfl, by rfl⟩
theorem ta_fit : dfits taOps (dahead taOps) 82 = true := by kernel_rfl
def taV (g : Nat) (tg vb : ByteArray) (kd : Int) : Nat → Value
  | 0 => .pointer (some ⟨g, 0, none⟩)
  | 1 => .string tg
  | 2 => .string (tg ++ spB)
  | 3 => .pointer (some ⟨g, 1, none⟩)
  | 4 => .int .i64 kd
  | 5 => .string vb
  | 6 => .string (tg ++ spB ++ vb)
  | 7 => .string (tg ++ spB ++ vb)
  | _ => undef
set_option maxRecDepth 100000 in
set_option maxHeartbeats 1000000 in
theorem ta_step (g : Nat) (tg vb : ByteArray) (kd : Int) (T : Array Value) (hT1 : T.getD 1 undef = .pointer (some ⟨g, 0, none⟩)) (S : World → Prop)
    (L0 : ∀ W, S W → (Instr.loadAt 9 (.pointer (some ⟨g, 0, none⟩))).run Tryz.prog W = .ok (.string tg) W)
    (L1 : ∀ W, S W → (Instr.loadAt 3 (.pointer (some ⟨g, 1, none⟩))).run Tryz.prog W = .ok (.int .i64 kd) W)
    (VB : ∀ W, S W → Calls Tryz.prog 50 #[.int .i64 kd] W fun e w' => e = .returned (.string vb) ∧ S w')
    (z0 : (tg).size + (spB).size ≤ 9223372036854775807)
    (z1 : (tg ++ spB).size + (vb).size ≤ 9223372036854775807) :
    ∀ i o, taOps[i]? = some o → ∀ (m : Nat → Bool) w', (∀ k ∈ dal (dahead taOps) i, m k = true) → m i = false → S w' → DStep Tryz.prog o (dval taOps (dahead taOps) (taV g tg vb kd) T i) (taV g tg vb kd) i S (fun _ _ => False) w' := by
  intro i o ho m w' _ _ hS
  have hi : i < 8 := by rw [← ta_size]; exact (Array.getElem?_eq_some_iff.1 ho).1
  rcases i with _ | _ | _ | _ | _ | _ | _ | _ | i
  · obtain ⟨o', ho', hg, hop⟩ := ta_o0
    obtain rfl := Option.some.inj (ho'.symm.trans ho)
    have r1 : dval taOps (dahead taOps) (taV g tg vb kd) T 0 (.tmp 1) = .pointer (some ⟨g, 0, none⟩) := (show _ = T.getD 1 undef by kernel_rfl).trans hT1
    exact dstep_value (by simp [dwant, hg]) (show (execOp _ _).run Tryz.prog w' = .ok (.value (.pointer (some ⟨g, 0, none⟩))) w' by simp [execOp, hop, go_sem, r1]) hS
  · obtain ⟨o', ho', hg, hop⟩ := ta_o1
    obtain rfl := Option.some.inj (ho'.symm.trans ho)
    have r4 : dval taOps (dahead taOps) (taV g tg vb kd) T 1 (.tmp 4) = .pointer (some ⟨g, 0, none⟩) := by kernel_rfl
    exact dstep_value (by simp [dwant, hg]) (dexec_load hop (by rw [r4]; exact L0 _ hS)) hS
  · obtain ⟨o', ho', hg, hop⟩ := ta_o2
    obtain rfl := Option.some.inj (ho'.symm.trans ho)
    have r5 : dval taOps (dahead taOps) (taV g tg vb kd) T 2 (.tmp 5) = .string tg := by kernel_rfl
    exact dstep_value (by simp [dwant, hg]) (dexec_add hop r5 rfl (z0)) hS
  · obtain ⟨o', ho', hg, hop⟩ := ta_o3
    obtain rfl := Option.some.inj (ho'.symm.trans ho)
    have r1 : dval taOps (dahead taOps) (taV g tg vb kd) T 3 (.tmp 1) = .pointer (some ⟨g, 0, none⟩) := (show _ = T.getD 1 undef by kernel_rfl).trans hT1
    exact dstep_value (by simp [dwant, hg]) (show (execOp _ _).run Tryz.prog w' = .ok (.value (.pointer (some ⟨g, 1, none⟩))) w' by simp [execOp, hop, go_sem, r1]) hS
  · obtain ⟨o', ho', hg, hop⟩ := ta_o4
    obtain rfl := Option.some.inj (ho'.symm.trans ho)
    have r7 : dval taOps (dahead taOps) (taV g tg vb kd) T 4 (.tmp 7) = .pointer (some ⟨g, 1, none⟩) := by kernel_rfl
    exact dstep_value (by simp [dwant, hg]) (dexec_load hop (by rw [r7]; exact L1 _ hS)) hS
  · obtain ⟨o', ho', hg, hop⟩ := ta_o5
    obtain rfl := Option.some.inj (ho'.symm.trans ho)
    have r8 : dval taOps (dahead taOps) (taV g tg vb kd) T 5 (.tmp 8) = .int .i64 kd := by kernel_rfl
    exact dstep_enter (by simp [dwant, hg]) (dexec_call hop rfl (by simp [go_sem, r8])) (VB _ hS)
  · obtain ⟨o', ho', hg, hop⟩ := ta_o6
    obtain rfl := Option.some.inj (ho'.symm.trans ho)
    have r6 : dval taOps (dahead taOps) (taV g tg vb kd) T 6 (.tmp 6) = .string (tg ++ spB) := by kernel_rfl
    have r9 : dval taOps (dahead taOps) (taV g tg vb kd) T 6 (.tmp 9) = .string vb := by kernel_rfl
    exact dstep_value (by simp [dwant, hg]) (dexec_add hop r6 r9 (z1)) hS
  · obtain ⟨o', ho', hg, hop⟩ := ta_o7
    obtain rfl := Option.some.inj (ho'.symm.trans ho)
    have r10 : dval taOps (dahead taOps) (taV g tg vb kd) T 7 (.tmp 10) = .string (tg ++ spB ++ vb) := by kernel_rfl
    exact dstep_value (by simp [dwant, hg]) (show (execOp _ _).run Tryz.prog w' = .ok (.value (.string (tg ++ spB ++ vb))) w' by simp [execOp, hop, go_sem, r10]) hS
  · omega
theorem ta_put (g : Nat) (tg vb : ByteArray) (kd : Int) (T : Array Value) : dputN taOps (taV g tg vb kd) T 8 = (((((((T.setIfInBounds 4 (.pointer (some ⟨g, 0, none⟩))).setIfInBounds 5 (.string tg)).setIfInBounds 6 (.string (tg ++ spB))).setIfInBounds 7 (.pointer (some ⟨g, 1, none⟩))).setIfInBounds 8 (.int .i64 kd)).setIfInBounds 9 (.string vb)).setIfInBounds 10 (.string (tg ++ spB ++ vb))).setIfInBounds 3 (.string (tg ++ spB ++ vb)) := by kernel_rfl
noncomputable def tbOps : Array Oper := ((Tryz.f28.body).bind (dfind 11)).getD #[]
theorem tb_size : tbOps.size = 12 := by kernel_rfl
theorem tb_o0 : ∃ o, tbOps[0]? = some o ∧ o.guard = none ∧ o.op = .move (.tmp 3) := ⟨_, by rfl, by rfl, by rfl⟩
theorem tb_o1 : ∃ o, tbOps[1]? = some o ∧ o.guard = none ∧ o.op = .binOp .add 9 (.tmp 48) (.const (Value.string { data := #[32] })) 9 := ⟨_, by rfl, by rfl, by rfl⟩
theorem tb_o2 : ∃ o, tbOps[2]? = some o ∧ o.guard = none ∧ o.op = .fieldAddr 26 (.tmp 1) 3 := ⟨_, by rfl, by rfl, by rfl⟩
theorem tb_o3 : ∃ o, tbOps[3]? = some o ∧ o.guard = none ∧ o.op = .load 22 (.tmp 50) := ⟨_, by rfl, by rfl, by rfl⟩
theorem tb_o4 : ∃ o, tbOps[4]? = some o ∧ o.guard = none ∧ o.op = .call { callee := .value (.func 54), args := #[(.tmp 51)], argTypes := #[22] } := ⟨_, by rfl, by rfl, by rfl⟩
theorem tb_o5 : ∃ o, tbOps[5]? = some o ∧ o.guard = none ∧ o.op = .binOp .add 9 (.tmp 49) (.tmp 52) 9 := ⟨_, by rfl, by rfl, by rfl⟩
theorem tb_o6 : ∃ o, tbOps[6]? = some o ∧ o.guard = none ∧ o.op = .binOp .add 9 (.tmp 53) (.const (Value.string { data := #[32] })) 9 := ⟨_, by rfl, by rfl, by rfl⟩
theorem tb_o7 : ∃ o, tbOps[7]? = some o ∧ o.guard = none ∧ o.op = .fieldAddr 26 (.tmp 1) 4 := ⟨_, by rfl, by rfl, by rfl⟩
theorem tb_o8 : ∃ o, tbOps[8]? = some o ∧ o.guard = none ∧ o.op = .load 3 (.tmp 55) := ⟨_, by rfl, by rfl, by rfl⟩
theorem tb_o9 : ∃ o, tbOps[9]? = some o ∧ o.guard = none ∧ o.op = .call { callee := .value (.func 55), args := #[(.tmp 56)], argTypes := #[3] } := ⟨_, by rfl, by rfl, by rfl⟩
theorem tb_o10 : ∃ o, tbOps[10]? = some o ∧ o.guard = none ∧ o.op = .binOp .add 9 (.tmp 54) (.tmp 57) 9 := ⟨_, by rfl, by rfl, by rfl⟩
theorem tb_o11 : ∃ o, tbOps[11]? = some o ∧ o.guard = none ∧ o.op = .assign (.tmp 58) := ⟨_, by rfl, by rfl, by rfl⟩
theorem tb_fit : dfits tbOps (dahead tbOps) 82 = true := by kernel_rfl
def tbV (g : Nat) (s ps is : ByteArray) (vs : Value) (it : Int) : Nat → Value
  | 0 => .string s
  | 1 => .string (s ++ spB)
  | 2 => .pointer (some ⟨g, 3, none⟩)
  | 3 => vs
  | 4 => .string ps
  | 5 => .string (s ++ spB ++ ps)
  | 6 => .string (s ++ spB ++ ps ++ spB)
  | 7 => .pointer (some ⟨g, 4, none⟩)
  | 8 => .int .i64 it
  | 9 => .string is
  | 10 => .string (s ++ spB ++ ps ++ spB ++ is)
  | 11 => .string (s ++ spB ++ ps ++ spB ++ is)
  | _ => undef
set_option maxRecDepth 100000 in
set_option maxHeartbeats 1000000 in
theorem tb_step (g : Nat) (s ps is : ByteArray) (vs : Value) (it : Int) (T : Array Value) (hT1 : T.getD 1 undef = .pointer (some ⟨g, 0, none⟩)) (hT3 : T.getD 3 undef = .string s) (S : World → Prop)
    (L3 : ∀ W, S W → (Instr.loadAt 22 (.pointer (some ⟨g, 3, none⟩))).run Tryz.prog W = .ok (vs) W)
    (L4 : ∀ W, S W → (Instr.loadAt 3 (.pointer (some ⟨g, 4, none⟩))).run Tryz.prog W = .ok (.int .i64 it) W)
    (PR : ∀ W, S W → Calls Tryz.prog 54 #[vs] W fun e w' => e = .returned (.string ps) ∧ S w')
    (IT : ∀ W, S W → Calls Tryz.prog 55 #[.int .i64 it] W fun e w' => e = .returned (.string is) ∧ S w')
    (z0 : (s).size + (spB).size ≤ 9223372036854775807)
    (z1 : (s ++ spB).size + (ps).size ≤ 9223372036854775807)
    (z2 : (s ++ spB ++ ps).size + (spB).size ≤ 9223372036854775807)
    (z3 : (s ++ spB ++ ps ++ spB).size + (is).size ≤ 9223372036854775807) :
    ∀ i o, tbOps[i]? = some o → ∀ (m : Nat → Bool) w', (∀ k ∈ dal (dahead tbOps) i, m k = true) → m i = false → S w' → DStep Tryz.prog o (dval tbOps (dahead tbOps) (tbV g s ps is vs it) T i) (tbV g s ps is vs it) i S (fun _ _ => False) w' := by
  intro i o ho m w' _ _ hS
  have hi : i < 12 := by rw [← tb_size]; exact (Array.getElem?_eq_some_iff.1 ho).1
  rcases i with _ | _ | _ | _ | _ | _ | _ | _ | _ | _ | _ | _ | i
  · obtain ⟨o', ho', hg, hop⟩ := tb_o0
    obtain rfl := Option.some.inj (ho'.symm.trans ho)
    have r3 : dval tbOps (dahead tbOps) (tbV g s ps is vs it) T 0 (.tmp 3) = .string s := (show _ = T.getD 3 undef by kernel_rfl).trans hT3
    exact dstep_value (by simp [dwant, hg]) (show (execOp _ _).run Tryz.prog w' = .ok (.value (.string s)) w' by simp [execOp, hop, go_sem, r3]) hS
  · obtain ⟨o', ho', hg, hop⟩ := tb_o1
    obtain rfl := Option.some.inj (ho'.symm.trans ho)
    have r48 : dval tbOps (dahead tbOps) (tbV g s ps is vs it) T 1 (.tmp 48) = .string s := by kernel_rfl
    exact dstep_value (by simp [dwant, hg]) (dexec_add hop r48 rfl (z0)) hS
  · obtain ⟨o', ho', hg, hop⟩ := tb_o2
    obtain rfl := Option.some.inj (ho'.symm.trans ho)
    have r1 : dval tbOps (dahead tbOps) (tbV g s ps is vs it) T 2 (.tmp 1) = .pointer (some ⟨g, 0, none⟩) := (show _ = T.getD 1 undef by kernel_rfl).trans hT1
    exact dstep_value (by simp [dwant, hg]) (show (execOp _ _).run Tryz.prog w' = .ok (.value (.pointer (some ⟨g, 3, none⟩))) w' by simp [execOp, hop, go_sem, r1]) hS
  · obtain ⟨o', ho', hg, hop⟩ := tb_o3
    obtain rfl := Option.some.inj (ho'.symm.trans ho)
    have r50 : dval tbOps (dahead tbOps) (tbV g s ps is vs it) T 3 (.tmp 50) = .pointer (some ⟨g, 3, none⟩) := by kernel_rfl
    exact dstep_value (by simp [dwant, hg]) (dexec_load hop (by rw [r50]; exact L3 _ hS)) hS
  · obtain ⟨o', ho', hg, hop⟩ := tb_o4
    obtain rfl := Option.some.inj (ho'.symm.trans ho)
    have r51 : dval tbOps (dahead tbOps) (tbV g s ps is vs it) T 4 (.tmp 51) = vs := by kernel_rfl
    exact dstep_enter (by simp [dwant, hg]) (dexec_call hop rfl (by simp [go_sem, r51])) (PR _ hS)
  · obtain ⟨o', ho', hg, hop⟩ := tb_o5
    obtain rfl := Option.some.inj (ho'.symm.trans ho)
    have r49 : dval tbOps (dahead tbOps) (tbV g s ps is vs it) T 5 (.tmp 49) = .string (s ++ spB) := by kernel_rfl
    have r52 : dval tbOps (dahead tbOps) (tbV g s ps is vs it) T 5 (.tmp 52) = .string ps := by kernel_rfl
    exact dstep_value (by simp [dwant, hg]) (dexec_add hop r49 r52 (z1)) hS
  · obtain ⟨o', ho', hg, hop⟩ := tb_o6
    obtain rfl := Option.some.inj (ho'.symm.trans ho)
    have r53 : dval tbOps (dahead tbOps) (tbV g s ps is vs it) T 6 (.tmp 53) = .string (s ++ spB ++ ps) := by kernel_rfl
    exact dstep_value (by simp [dwant, hg]) (dexec_add hop r53 rfl (z2)) hS
  · obtain ⟨o', ho', hg, hop⟩ := tb_o7
    obtain rfl := Option.some.inj (ho'.symm.trans ho)
    have r1 : dval tbOps (dahead tbOps) (tbV g s ps is vs it) T 7 (.tmp 1) = .pointer (some ⟨g, 0, none⟩) := (show _ = T.getD 1 undef by kernel_rfl).trans hT1
    exact dstep_value (by simp [dwant, hg]) (show (execOp _ _).run Tryz.prog w' = .ok (.value (.pointer (some ⟨g, 4, none⟩))) w' by simp [execOp, hop, go_sem, r1]) hS
  · obtain ⟨o', ho', hg, hop⟩ := tb_o8
    obtain rfl := Option.some.inj (ho'.symm.trans ho)
    have r55 : dval tbOps (dahead tbOps) (tbV g s ps is vs it) T 8 (.tmp 55) = .pointer (some ⟨g, 4, none⟩) := by kernel_rfl
    exact dstep_value (by simp [dwant, hg]) (dexec_load hop (by rw [r55]; exact L4 _ hS)) hS
  · obtain ⟨o', ho', hg, hop⟩ := tb_o9
    obtain rfl := Option.some.inj (ho'.symm.trans ho)
    have r56 : dval tbOps (dahead tbOps) (tbV g s ps is vs it) T 9 (.tmp 56) = .int .i64 it := by kernel_rfl
    exact dstep_enter (by simp [dwant, hg]) (dexec_call hop rfl (by simp [go_sem, r56])) (IT _ hS)
  · obtain ⟨o', ho', hg, hop⟩ := tb_o10
    obtain rfl := Option.some.inj (ho'.symm.trans ho)
    have r54 : dval tbOps (dahead tbOps) (tbV g s ps is vs it) T 10 (.tmp 54) = .string (s ++ spB ++ ps ++ spB) := by kernel_rfl
    have r57 : dval tbOps (dahead tbOps) (tbV g s ps is vs it) T 10 (.tmp 57) = .string is := by kernel_rfl
    exact dstep_value (by simp [dwant, hg]) (dexec_add hop r54 r57 (z3)) hS
  · obtain ⟨o', ho', hg, hop⟩ := tb_o11
    obtain rfl := Option.some.inj (ho'.symm.trans ho)
    have r58 : dval tbOps (dahead tbOps) (tbV g s ps is vs it) T 11 (.tmp 58) = .string (s ++ spB ++ ps ++ spB ++ is) := by kernel_rfl
    exact dstep_value (by simp [dwant, hg]) (show (execOp _ _).run Tryz.prog w' = .ok (.value (.string (s ++ spB ++ ps ++ spB ++ is))) w' by simp [execOp, hop, go_sem, r58]) hS
  · omega
theorem tb_put (g : Nat) (s ps is : ByteArray) (vs : Value) (it : Int) (T : Array Value) : dputN tbOps (tbV g s ps is vs it) T 12 = (((((((((((T.setIfInBounds 48 (.string s)).setIfInBounds 49 (.string (s ++ spB))).setIfInBounds 50 (.pointer (some ⟨g, 3, none⟩))).setIfInBounds 51 (vs)).setIfInBounds 52 (.string ps)).setIfInBounds 53 (.string (s ++ spB ++ ps))).setIfInBounds 54 (.string (s ++ spB ++ ps ++ spB))).setIfInBounds 55 (.pointer (some ⟨g, 4, none⟩))).setIfInBounds 56 (.int .i64 it)).setIfInBounds 57 (.string is)).setIfInBounds 58 (.string (s ++ spB ++ ps ++ spB ++ is))).setIfInBounds 3 (.string (s ++ spB ++ ps ++ spB ++ is)) := by kernel_rfl
noncomputable def tcOps : Array Oper := ((Tryz.f28.body).bind (dfind 13)).getD #[]
theorem tc_size : tcOps.size = 20 := by kernel_rfl
theorem tc_o0 : ∃ o, tcOps[0]? = some o ∧ o.guard = none ∧ o.op = .move (.tmp 3) := ⟨_, by rfl, by rfl, by rfl⟩
theorem tc_o1 : ∃ o, tcOps[1]? = some o ∧ o.guard = none ∧ o.op = .binOp .add 9 (.tmp 61) (.const (Value.string { data := #[32] })) 9 := ⟨_, by rfl, by rfl, by rfl⟩
theorem tc_o2 : ∃ o, tcOps[2]? = some o ∧ o.guard = none ∧ o.op = .fieldAddr 26 (.tmp 1) 3 := ⟨_, by rfl, by rfl, by rfl⟩
theorem tc_o3 : ∃ o, tcOps[3]? = some o ∧ o.guard = none ∧ o.op = .load 22 (.tmp 63) := ⟨_, by rfl, by rfl, by rfl⟩
theorem tc_o4 : ∃ o, tcOps[4]? = some o ∧ o.guard = none ∧ o.op = .call { callee := .value (.func 54), args := #[(.tmp 64)], argTypes := #[22] } := ⟨_, by rfl, by rfl, by rfl⟩
theorem tc_o5 : ∃ o, tcOps[5]? = some o ∧ o.guard = none ∧ o.op = .binOp .add 9 (.tmp 62) (.tmp 65) 9 := ⟨_, by rfl, by rfl, by rfl⟩
theorem tc_o6 : ∃ o, tcOps[6]? = some o ∧ o.guard = none ∧ o.op = .binOp .add 9 (.tmp 66) (.const (Value.string { data := #[32] })) 9 := ⟨_, by rfl, by rfl, by rfl⟩
theorem tc_o7 : ∃ o, tcOps[7]? = some o ∧ o.guard = none ∧ o.op = .fieldAddr 26 (.tmp 1) 5 := ⟨_, by rfl, by rfl, by rfl⟩
theorem tc_o8 : ∃ o, tcOps[8]? = some o ∧ o.guard = none ∧ o.op = .load 3 (.tmp 68) := ⟨_, by rfl, by rfl, by rfl⟩
theorem tc_o9 : ∃ o, tcOps[9]? = some o ∧ o.guard = none ∧ o.op = .fieldAddr 26 (.tmp 1) 6 := ⟨_, by rfl, by rfl, by rfl⟩
theorem tc_o10 : ∃ o, tcOps[10]? = some o ∧ o.guard = none ∧ o.op = .load 4 (.tmp 70) := ⟨_, by rfl, by rfl, by rfl⟩
theorem tc_o11 : ∃ o, tcOps[11]? = some o ∧ o.guard = none ∧ o.op = .call { callee := .value (.func 56), args := #[(.tmp 69), (.tmp 71)], argTypes := #[3, 4] } := ⟨_, by rfl, by rfl, by rfl⟩
theorem tc_o12 : ∃ o, tcOps[12]? = some o ∧ o.guard = none ∧ o.op = .binOp .add 9 (.tmp 67) (.tmp 72) 9 := ⟨_, by rfl, by rfl, by rfl⟩
theorem tc_o13 : ∃ o, tcOps[13]? = some o ∧ o.guard = none ∧ o.op = .binOp .add 9 (.tmp 73) (.const (Value.string { data := #[32] })) 9 := ⟨_, by rfl, by rfl, by rfl⟩
theorem tc_o14 : ∃ o, tcOps[14]? = some o ∧ o.guard = none ∧ o.op = .fieldAddr 26 (.tmp 1) 7 := ⟨_, by rfl, by rfl, by rfl⟩
theorem tc_o15 : ∃ o, tcOps[15]? = some o ∧ o.guard = none ∧ o.op = .load 23 (.tmp 75) := ⟨_, by rfl, by rfl, by rfl⟩
theorem tc_o16 : ∃ o, tcOps[16]? = some o ∧ o.guard = none ∧ o.op = .convert 23 3 (.tmp 76) := ⟨_, by rfl, by rfl, by rfl⟩
theorem tc_o17 : ∃ o, tcOps[17]? = some o ∧ o.guard = none ∧ o.op = .call { callee := .value (.func 52), args := #[(.tmp 77)], argTypes := #[3] } := ⟨_, by rfl, by rfl, by rfl⟩
theorem tc_o18 : ∃ o, tcOps[18]? = some o ∧ o.guard = none ∧ o.op = .binOp .add 9 (.tmp 74) (.tmp 78) 9 := ⟨_, by rfl, by rfl, by rfl⟩
theorem tc_o19 : ∃ o, tcOps[19]? = some o ∧ o.guard = none ∧ o.op = .assign (.tmp 79) := ⟨_, by rfl, by rfl, by rfl⟩
theorem tc_fit : dfits tcOps (dahead tcOps) 82 = true := by kernel_rfl
def tcV (g : Nat) (s ps ms ls : ByteArray) (vs : Value) (mo f : Int) (si : Bool) : Nat → Value
  | 0 => .string s
  | 1 => .string (s ++ spB)
  | 2 => .pointer (some ⟨g, 3, none⟩)
  | 3 => vs
  | 4 => .string ps
  | 5 => .string (s ++ spB ++ ps)
  | 6 => .string (s ++ spB ++ ps ++ spB)
  | 7 => .pointer (some ⟨g, 5, none⟩)
  | 8 => .int .i64 mo
  | 9 => .pointer (some ⟨g, 6, none⟩)
  | 10 => .bool si
  | 11 => .string ms
  | 12 => .string (s ++ spB ++ ps ++ spB ++ ms)
  | 13 => .string (s ++ spB ++ ps ++ spB ++ ms ++ spB)
  | 14 => .pointer (some ⟨g, 7, none⟩)
  | 15 => .int .u8 f
  | 16 => .int .i64 f
  | 17 => .string ls
  | 18 => .string (s ++ spB ++ ps ++ spB ++ ms ++ spB ++ ls)
  | 19 => .string (s ++ spB ++ ps ++ spB ++ ms ++ spB ++ ls)
  | _ => undef
set_option maxRecDepth 100000 in
set_option maxHeartbeats 1000000 in
theorem tc_step (g : Nat) (s ps ms ls : ByteArray) (vs : Value) (mo f : Int) (si : Bool) (T : Array Value) (hT1 : T.getD 1 undef = .pointer (some ⟨g, 0, none⟩)) (hT3 : T.getD 3 undef = .string s) (S : World → Prop)
    (L3 : ∀ W, S W → (Instr.loadAt 22 (.pointer (some ⟨g, 3, none⟩))).run Tryz.prog W = .ok (vs) W)
    (L5 : ∀ W, S W → (Instr.loadAt 3 (.pointer (some ⟨g, 5, none⟩))).run Tryz.prog W = .ok (.int .i64 mo) W)
    (L6 : ∀ W, S W → (Instr.loadAt 4 (.pointer (some ⟨g, 6, none⟩))).run Tryz.prog W = .ok (.bool si) W)
    (L7 : ∀ W, S W → (Instr.loadAt 23 (.pointer (some ⟨g, 7, none⟩))).run Tryz.prog W = .ok (.int .u8 f) W)
    (CV : ∀ W, (convert 23 3 (.int .u8 f)).run Tryz.prog W = .ok (.int .i64 f) W)
    (PR : ∀ W, S W → Calls Tryz.prog 54 #[vs] W fun e w' => e = .returned (.string ps) ∧ S w')
    (MO : ∀ W, S W → Calls Tryz.prog 56 #[.int .i64 mo, .bool si] W fun e w' => e = .returned (.string ms) ∧ S w')
    (LI : ∀ W, S W → Calls Tryz.prog 52 #[.int .i64 f] W fun e w' => e = .returned (.string ls) ∧ S w')
    (z0 : (s).size + (spB).size ≤ 9223372036854775807)
    (z1 : (s ++ spB).size + (ps).size ≤ 9223372036854775807)
    (z2 : (s ++ spB ++ ps).size + (spB).size ≤ 9223372036854775807)
    (z3 : (s ++ spB ++ ps ++ spB).size + (ms).size ≤ 9223372036854775807)
    (z4 : (s ++ spB ++ ps ++ spB ++ ms).size + (spB).size ≤ 9223372036854775807)
    (z5 : (s ++ spB ++ ps ++ spB ++ ms ++ spB).size + (ls).size ≤ 9223372036854775807) :
    ∀ i o, tcOps[i]? = some o → ∀ (m : Nat → Bool) w', (∀ k ∈ dal (dahead tcOps) i, m k = true) → m i = false → S w' → DStep Tryz.prog o (dval tcOps (dahead tcOps) (tcV g s ps ms ls vs mo f si) T i) (tcV g s ps ms ls vs mo f si) i S (fun _ _ => False) w' := by
  intro i o ho m w' _ _ hS
  have hi : i < 20 := by rw [← tc_size]; exact (Array.getElem?_eq_some_iff.1 ho).1
  rcases i with _ | _ | _ | _ | _ | _ | _ | _ | _ | _ | _ | _ | _ | _ | _ | _ | _ | _ | _ | _ | i
  · obtain ⟨o', ho', hg, hop⟩ := tc_o0
    obtain rfl := Option.some.inj (ho'.symm.trans ho)
    have r3 : dval tcOps (dahead tcOps) (tcV g s ps ms ls vs mo f si) T 0 (.tmp 3) = .string s := (show _ = T.getD 3 undef by kernel_rfl).trans hT3
    exact dstep_value (by simp [dwant, hg]) (show (execOp _ _).run Tryz.prog w' = .ok (.value (.string s)) w' by simp [execOp, hop, go_sem, r3]) hS
  · obtain ⟨o', ho', hg, hop⟩ := tc_o1
    obtain rfl := Option.some.inj (ho'.symm.trans ho)
    have r61 : dval tcOps (dahead tcOps) (tcV g s ps ms ls vs mo f si) T 1 (.tmp 61) = .string s := by kernel_rfl
    exact dstep_value (by simp [dwant, hg]) (dexec_add hop r61 rfl (z0)) hS
  · obtain ⟨o', ho', hg, hop⟩ := tc_o2
    obtain rfl := Option.some.inj (ho'.symm.trans ho)
    have r1 : dval tcOps (dahead tcOps) (tcV g s ps ms ls vs mo f si) T 2 (.tmp 1) = .pointer (some ⟨g, 0, none⟩) := (show _ = T.getD 1 undef by kernel_rfl).trans hT1
    exact dstep_value (by simp [dwant, hg]) (show (execOp _ _).run Tryz.prog w' = .ok (.value (.pointer (some ⟨g, 3, none⟩))) w' by simp [execOp, hop, go_sem, r1]) hS
  · obtain ⟨o', ho', hg, hop⟩ := tc_o3
    obtain rfl := Option.some.inj (ho'.symm.trans ho)
    have r63 : dval tcOps (dahead tcOps) (tcV g s ps ms ls vs mo f si) T 3 (.tmp 63) = .pointer (some ⟨g, 3, none⟩) := by kernel_rfl
    exact dstep_value (by simp [dwant, hg]) (dexec_load hop (by rw [r63]; exact L3 _ hS)) hS
  · obtain ⟨o', ho', hg, hop⟩ := tc_o4
    obtain rfl := Option.some.inj (ho'.symm.trans ho)
    have r64 : dval tcOps (dahead tcOps) (tcV g s ps ms ls vs mo f si) T 4 (.tmp 64) = vs := by kernel_rfl
    exact dstep_enter (by simp [dwant, hg]) (dexec_call hop rfl (by simp [go_sem, r64])) (PR _ hS)
  · obtain ⟨o', ho', hg, hop⟩ := tc_o5
    obtain rfl := Option.some.inj (ho'.symm.trans ho)
    have r62 : dval tcOps (dahead tcOps) (tcV g s ps ms ls vs mo f si) T 5 (.tmp 62) = .string (s ++ spB) := by kernel_rfl
    have r65 : dval tcOps (dahead tcOps) (tcV g s ps ms ls vs mo f si) T 5 (.tmp 65) = .string ps := by kernel_rfl
    exact dstep_value (by simp [dwant, hg]) (dexec_add hop r62 r65 (z1)) hS
  · obtain ⟨o', ho', hg, hop⟩ := tc_o6
    obtain rfl := Option.some.inj (ho'.symm.trans ho)
    have r66 : dval tcOps (dahead tcOps) (tcV g s ps ms ls vs mo f si) T 6 (.tmp 66) = .string (s ++ spB ++ ps) := by kernel_rfl
    exact dstep_value (by simp [dwant, hg]) (dexec_add hop r66 rfl (z2)) hS
  · obtain ⟨o', ho', hg, hop⟩ := tc_o7
    obtain rfl := Option.some.inj (ho'.symm.trans ho)
    have r1 : dval tcOps (dahead tcOps) (tcV g s ps ms ls vs mo f si) T 7 (.tmp 1) = .pointer (some ⟨g, 0, none⟩) := (show _ = T.getD 1 undef by kernel_rfl).trans hT1
    exact dstep_value (by simp [dwant, hg]) (show (execOp _ _).run Tryz.prog w' = .ok (.value (.pointer (some ⟨g, 5, none⟩))) w' by simp [execOp, hop, go_sem, r1]) hS
  · obtain ⟨o', ho', hg, hop⟩ := tc_o8
    obtain rfl := Option.some.inj (ho'.symm.trans ho)
    have r68 : dval tcOps (dahead tcOps) (tcV g s ps ms ls vs mo f si) T 8 (.tmp 68) = .pointer (some ⟨g, 5, none⟩) := by kernel_rfl
    exact dstep_value (by simp [dwant, hg]) (dexec_load hop (by rw [r68]; exact L5 _ hS)) hS
  · obtain ⟨o', ho', hg, hop⟩ := tc_o9
    obtain rfl := Option.some.inj (ho'.symm.trans ho)
    have r1 : dval tcOps (dahead tcOps) (tcV g s ps ms ls vs mo f si) T 9 (.tmp 1) = .pointer (some ⟨g, 0, none⟩) := (show _ = T.getD 1 undef by kernel_rfl).trans hT1
    exact dstep_value (by simp [dwant, hg]) (show (execOp _ _).run Tryz.prog w' = .ok (.value (.pointer (some ⟨g, 6, none⟩))) w' by simp [execOp, hop, go_sem, r1]) hS
  · obtain ⟨o', ho', hg, hop⟩ := tc_o10
    obtain rfl := Option.some.inj (ho'.symm.trans ho)
    have r70 : dval tcOps (dahead tcOps) (tcV g s ps ms ls vs mo f si) T 10 (.tmp 70) = .pointer (some ⟨g, 6, none⟩) := by kernel_rfl
    exact dstep_value (by simp [dwant, hg]) (dexec_load hop (by rw [r70]; exact L6 _ hS)) hS
  · obtain ⟨o', ho', hg, hop⟩ := tc_o11
    obtain rfl := Option.some.inj (ho'.symm.trans ho)
    have r69 : dval tcOps (dahead tcOps) (tcV g s ps ms ls vs mo f si) T 11 (.tmp 69) = .int .i64 mo := by kernel_rfl
    have r71 : dval tcOps (dahead tcOps) (tcV g s ps ms ls vs mo f si) T 11 (.tmp 71) = .bool si := by kernel_rfl
    exact dstep_enter (by simp [dwant, hg]) (dexec_call hop rfl (by simp [go_sem, r69, r71])) (MO _ hS)
  · obtain ⟨o', ho', hg, hop⟩ := tc_o12
    obtain rfl := Option.some.inj (ho'.symm.trans ho)
    have r67 : dval tcOps (dahead tcOps) (tcV g s ps ms ls vs mo f si) T 12 (.tmp 67) = .string (s ++ spB ++ ps ++ spB) := by kernel_rfl
    have r72 : dval tcOps (dahead tcOps) (tcV g s ps ms ls vs mo f si) T 12 (.tmp 72) = .string ms := by kernel_rfl
    exact dstep_value (by simp [dwant, hg]) (dexec_add hop r67 r72 (z3)) hS
  · obtain ⟨o', ho', hg, hop⟩ := tc_o13
    obtain rfl := Option.some.inj (ho'.symm.trans ho)
    have r73 : dval tcOps (dahead tcOps) (tcV g s ps ms ls vs mo f si) T 13 (.tmp 73) = .string (s ++ spB ++ ps ++ spB ++ ms) := by kernel_rfl
    exact dstep_value (by simp [dwant, hg]) (dexec_add hop r73 rfl (z4)) hS
  · obtain ⟨o', ho', hg, hop⟩ := tc_o14
    obtain rfl := Option.some.inj (ho'.symm.trans ho)
    have r1 : dval tcOps (dahead tcOps) (tcV g s ps ms ls vs mo f si) T 14 (.tmp 1) = .pointer (some ⟨g, 0, none⟩) := (show _ = T.getD 1 undef by kernel_rfl).trans hT1
    exact dstep_value (by simp [dwant, hg]) (show (execOp _ _).run Tryz.prog w' = .ok (.value (.pointer (some ⟨g, 7, none⟩))) w' by simp [execOp, hop, go_sem, r1]) hS
  · obtain ⟨o', ho', hg, hop⟩ := tc_o15
    obtain rfl := Option.some.inj (ho'.symm.trans ho)
    have r75 : dval tcOps (dahead tcOps) (tcV g s ps ms ls vs mo f si) T 15 (.tmp 75) = .pointer (some ⟨g, 7, none⟩) := by kernel_rfl
    exact dstep_value (by simp [dwant, hg]) (dexec_load hop (by rw [r75]; exact L7 _ hS)) hS
  · obtain ⟨o', ho', hg, hop⟩ := tc_o16
    obtain rfl := Option.some.inj (ho'.symm.trans ho)
    have r76 : dval tcOps (dahead tcOps) (tcV g s ps ms ls vs mo f si) T 16 (.tmp 76) = .int .u8 f := by kernel_rfl
    exact dstep_value (by simp [dwant, hg]) (show (execOp _ _).run Tryz.prog w' = .ok (.value (.int .i64 f)) w' by simp [execOp, hop, go_sem, r76, Result.andThen, CV]) hS
  · obtain ⟨o', ho', hg, hop⟩ := tc_o17
    obtain rfl := Option.some.inj (ho'.symm.trans ho)
    have r77 : dval tcOps (dahead tcOps) (tcV g s ps ms ls vs mo f si) T 17 (.tmp 77) = .int .i64 f := by kernel_rfl
    exact dstep_enter (by simp [dwant, hg]) (dexec_call hop rfl (by simp [go_sem, r77])) (LI _ hS)
  · obtain ⟨o', ho', hg, hop⟩ := tc_o18
    obtain rfl := Option.some.inj (ho'.symm.trans ho)
    have r74 : dval tcOps (dahead tcOps) (tcV g s ps ms ls vs mo f si) T 18 (.tmp 74) = .string (s ++ spB ++ ps ++ spB ++ ms ++ spB) := by kernel_rfl
    have r78 : dval tcOps (dahead tcOps) (tcV g s ps ms ls vs mo f si) T 18 (.tmp 78) = .string ls := by kernel_rfl
    exact dstep_value (by simp [dwant, hg]) (dexec_add hop r74 r78 (z5)) hS
  · obtain ⟨o', ho', hg, hop⟩ := tc_o19
    obtain rfl := Option.some.inj (ho'.symm.trans ho)
    have r79 : dval tcOps (dahead tcOps) (tcV g s ps ms ls vs mo f si) T 19 (.tmp 79) = .string (s ++ spB ++ ps ++ spB ++ ms ++ spB ++ ls) := by kernel_rfl
    exact dstep_value (by simp [dwant, hg]) (show (execOp _ _).run Tryz.prog w' = .ok (.value (.string (s ++ spB ++ ps ++ spB ++ ms ++ spB ++ ls))) w' by simp [execOp, hop, go_sem, r79]) hS
  · omega
theorem tc_put (g : Nat) (s ps ms ls : ByteArray) (vs : Value) (mo f : Int) (si : Bool) (T : Array Value) : dputN tcOps (tcV g s ps ms ls vs mo f si) T 20 = (((((((((((((((((((T.setIfInBounds 61 (.string s)).setIfInBounds 62 (.string (s ++ spB))).setIfInBounds 63 (.pointer (some ⟨g, 3, none⟩))).setIfInBounds 64 (vs)).setIfInBounds 65 (.string ps)).setIfInBounds 66 (.string (s ++ spB ++ ps))).setIfInBounds 67 (.string (s ++ spB ++ ps ++ spB))).setIfInBounds 68 (.pointer (some ⟨g, 5, none⟩))).setIfInBounds 69 (.int .i64 mo)).setIfInBounds 70 (.pointer (some ⟨g, 6, none⟩))).setIfInBounds 71 (.bool si)).setIfInBounds 72 (.string ms)).setIfInBounds 73 (.string (s ++ spB ++ ps ++ spB ++ ms))).setIfInBounds 74 (.string (s ++ spB ++ ps ++ spB ++ ms ++ spB))).setIfInBounds 75 (.pointer (some ⟨g, 7, none⟩))).setIfInBounds 76 (.int .u8 f)).setIfInBounds 77 (.int .i64 f)).setIfInBounds 78 (.string ls)).setIfInBounds 79 (.string (s ++ spB ++ ps ++ spB ++ ms ++ spB ++ ls))).setIfInBounds 3 (.string (s ++ spB ++ ps ++ spB ++ ms ++ spB ++ ls)) := by kernel_rfl
end Go.Proofs.YtpgfnlhfciacoaaGreatDoor
