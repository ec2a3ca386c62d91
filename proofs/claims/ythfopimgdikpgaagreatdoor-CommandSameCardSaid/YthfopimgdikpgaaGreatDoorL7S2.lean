/- The law CommandSame, at all commands: its last region draws its order; whatever the order, it yields what is known ahead. -/
import Derived.Test.YthfopimgdikpgaaGreatDoorL7S
import Derived.Test.YthfopimgdikpgaaGreatDoorDrawn
namespace Go.Proofs.YthfopimgdikpgaaGreatDoor
open Go.RowKit

noncomputable def slOps : Array Oper := ((Tryz.f5.body).bind (dfind 3)).getD #[]
theorem sl_size : slOps.size = 16 := by kernel_rfl
theorem sl_o0 : ∃ o, slOps[0]? = some o ∧ o.guard = none ∧ o.op = .call { callee := .value (.func 9), args := #[], argTypes := #[] } := ⟨_, by rfl, by rfl, by rfl⟩
theorem sl_o1 : ∃ o, slOps[1]? = some o ∧ o.guard = none ∧ o.op = .move (.tmp 14) := ⟨_, by rfl, by rfl, by rfl⟩
theorem sl_o2 : ∃ o, slOps[2]? = some o ∧ o.guard = some (1, true) ∧ o.op = .load 27 (.tmp 2) := ⟨_, by rfl, by rfl, by rfl⟩
theorem sl_o3 : ∃ o, slOps[3]? = some o ∧ o.guard = some (1, true) ∧ o.op = .load 27 (.tmp 3) := ⟨_, by rfl, by rfl, by rfl⟩
theorem sl_o4 : ∃ o, slOps[4]? = some o ∧ o.guard = some (1, true) ∧ o.op = .call { callee := .value (.func 16), args := #[(.tmp 16), (.tmp 17)], argTypes := #[27, 27] } := ⟨_, by rfl, by rfl, by rfl⟩
theorem sl_o5 : ∃ o, slOps[5]? = some o ∧ o.guard = some (1, true) ∧ o.op = .load 27 (.tmp 2) := ⟨_, by rfl, by rfl, by rfl⟩
theorem sl_o6 : ∃ o, slOps[6]? = some o ∧ o.guard = some (1, true) ∧ o.op = .load 27 (.tmp 3) := ⟨_, by rfl, by rfl, by rfl⟩
theorem sl_o7 : ∃ o, slOps[7]? = some o ∧ o.guard = some (1, true) ∧ o.op = .call { callee := .value (.func 12), args := #[(.tmp 19), (.tmp 20)], argTypes := #[27, 27] } := ⟨_, by rfl, by rfl, by rfl⟩
theorem sl_o8 : ∃ o, slOps[8]? = some o ∧ o.guard = some (1, true) ∧ o.op = .binOp .eql 4 (.tmp 18) (.tmp 21) 4 := ⟨_, by rfl, by rfl, by rfl⟩
theorem sl_o9 : ∃ o, slOps[9]? = some o ∧ o.guard = none ∧ o.op = .pick (.tmp 15) (.tmp 22) (.const (Value.bool false)) := ⟨_, by rfl, by rfl, by rfl⟩
theorem sl_o10 : ∃ o, slOps[10]? = some o ∧ o.guard = none ∧ o.op = .move (.tmp 23) := ⟨_, by rfl, by rfl, by rfl⟩
theorem sl_o11 : ∃ o, slOps[11]? = some o ∧ o.guard = some (10, true) ∧ o.op = .load 27 (.tmp 2) := ⟨_, by rfl, by rfl, by rfl⟩
theorem sl_o12 : ∃ o, slOps[12]? = some o ∧ o.guard = some (10, true) ∧ o.op = .load 27 (.tmp 2) := ⟨_, by rfl, by rfl, by rfl⟩
theorem sl_o13 : ∃ o, slOps[13]? = some o ∧ o.guard = some (10, true) ∧ o.op = .call { callee := .value (.func 16), args := #[(.tmp 25), (.tmp 26)], argTypes := #[27, 27] } := ⟨_, by rfl, by rfl, by rfl⟩
theorem sl_o14 : ∃ o, slOps[14]? = some o ∧ o.guard = none ∧ o.op = .pick (.tmp 24) (.tmp 27) (.const (Value.bool false)) := ⟨_, by rfl, by rfl, by rfl⟩
theorem sl_o15 : ∃ o, slOps[15]? = some o ∧ o.guard = none ∧ o.op = .assign (.tmp 28) := ⟨_, by rfl, by rfl, by rfl⟩
theorem sl_fit : dfits slOps (dahead slOps) 29 = true := by kernel_rfl
/-- What the operations yield. -/
def slV (va vb : Value) (q : Bool) : Nat → Value
  | 0 => .bool true
  | 1 => .bool true
  | 2 => va
  | 3 => vb
  | 4 => .bool q
  | 5 => va
  | 6 => vb
  | 7 => .bool q
  | 8 => .bool true
  | 9 => .bool true
  | 10 => .bool true
  | 11 => va
  | 12 => va
  | 13 => .bool true
  | 14 => .bool true
  | 15 => .bool true
  | _ => undef

set_option maxRecDepth 100000 in
set_option maxHeartbeats 1000000 in
theorem sl_step (va vb : Value) (q : Bool) (p2 p3 : Value) (T : Array Value) (hT2 : T.getD 2 undef = p2) (hT3 : T.getD 3 undef = p3) (S : World → Prop)
    (L2 : ∀ W, S W → (Instr.loadAt 27 p2).run Tryz.prog W = .ok va W)
    (L3 : ∀ W, S W → (Instr.loadAt 27 p3).run Tryz.prog W = .ok vb W)
    (AL : ∀ W, S W → Calls Tryz.prog 9 #[] W fun e w' => e = .returned (.bool true) ∧ S w')
    (PS : ∀ W, S W → Calls Tryz.prog 16 #[va, vb] W fun e w' => e = .returned (.bool q) ∧ S w')
    (RS : ∀ W, S W → Calls Tryz.prog 12 #[va, vb] W fun e w' => e = .returned (.bool q) ∧ S w')
    (PR : ∀ W, S W → Calls Tryz.prog 16 #[va, va] W fun e w' => e = .returned (.bool true) ∧ S w') :
    ∀ i o, slOps[i]? = some o → ∀ (m : Nat → Bool) w', (∀ k ∈ dal (dahead slOps) i, m k = true) → m i = false → S w' → DStep Tryz.prog o (dval slOps (dahead slOps) (slV va vb q) T i) (slV va vb q) i S (fun _ _ => False) w' := by
  intro i o ho m w' _ _ hS
  have hi : i < 16 := by rw [← sl_size]; exact (Array.getElem?_eq_some_iff.1 ho).1
  rcases i with _ | _ | _ | _ | _ | _ | _ | _ | _ | _ | _ | _ | _ | _ | _ | _ | i
  · obtain ⟨o', ho', hg, hop⟩ := sl_o0
    obtain rfl := Option.some.inj (ho'.symm.trans ho)
    exact dstep_enter (by simp [dwant, hg]) (dexec_call hop rfl (by simp [go_sem])) (AL _ hS)
  · obtain ⟨o', ho', hg, hop⟩ := sl_o1
    obtain rfl := Option.some.inj (ho'.symm.trans ho)
    have r14 : dval slOps (dahead slOps) (slV va vb q) T 1 (.tmp 14) = .bool true := by kernel_rfl
    exact dstep_value (by simp [dwant, hg]) (show (execOp _ _).run Tryz.prog w' = .ok (.value (.bool true)) w' by simp [execOp, hop, go_sem, r14]) hS
  · obtain ⟨o', ho', hg, hop⟩ := sl_o2
    obtain rfl := Option.some.inj (ho'.symm.trans ho)
    have r2 : dval slOps (dahead slOps) (slV va vb q) T 2 (.tmp 2) = p2 := (show _ = T.getD 2 undef by kernel_rfl).trans hT2
    exact dstep_value (by simp [dwant, hg, slV]) (dexec_load hop (by rw [r2]; exact L2 _ hS)) hS
  · obtain ⟨o', ho', hg, hop⟩ := sl_o3
    obtain rfl := Option.some.inj (ho'.symm.trans ho)
    have r3 : dval slOps (dahead slOps) (slV va vb q) T 3 (.tmp 3) = p3 := (show _ = T.getD 3 undef by kernel_rfl).trans hT3
    exact dstep_value (by simp [dwant, hg, slV]) (dexec_load hop (by rw [r3]; exact L3 _ hS)) hS
  · obtain ⟨o', ho', hg, hop⟩ := sl_o4
    obtain rfl := Option.some.inj (ho'.symm.trans ho)
    have r16 : dval slOps (dahead slOps) (slV va vb q) T 4 (.tmp 16) = va := by kernel_rfl
    have r17 : dval slOps (dahead slOps) (slV va vb q) T 4 (.tmp 17) = vb := by kernel_rfl
    exact dstep_enter (by simp [dwant, hg, slV]) (dexec_call hop rfl (by simp [go_sem, r16, r17])) (PS _ hS)
  · obtain ⟨o', ho', hg, hop⟩ := sl_o5
    obtain rfl := Option.some.inj (ho'.symm.trans ho)
    have r2 : dval slOps (dahead slOps) (slV va vb q) T 5 (.tmp 2) = p2 := (show _ = T.getD 2 undef by kernel_rfl).trans hT2
    exact dstep_value (by simp [dwant, hg, slV]) (dexec_load hop (by rw [r2]; exact L2 _ hS)) hS
  · obtain ⟨o', ho', hg, hop⟩ := sl_o6
    obtain rfl := Option.some.inj (ho'.symm.trans ho)
    have r3 : dval slOps (dahead slOps) (slV va vb q) T 6 (.tmp 3) = p3 := (show _ = T.getD 3 undef by kernel_rfl).trans hT3
    exact dstep_value (by simp [dwant, hg, slV]) (dexec_load hop (by rw [r3]; exact L3 _ hS)) hS
  · obtain ⟨o', ho', hg, hop⟩ := sl_o7
    obtain rfl := Option.some.inj (ho'.symm.trans ho)
    have r19 : dval slOps (dahead slOps) (slV va vb q) T 7 (.tmp 19) = va := by kernel_rfl
    have r20 : dval slOps (dahead slOps) (slV va vb q) T 7 (.tmp 20) = vb := by kernel_rfl
    exact dstep_enter (by simp [dwant, hg, slV]) (dexec_call hop rfl (by simp [go_sem, r19, r20])) (RS _ hS)
  · obtain ⟨o', ho', hg, hop⟩ := sl_o8
    obtain rfl := Option.some.inj (ho'.symm.trans ho)
    have r18 : dval slOps (dahead slOps) (slV va vb q) T 8 (.tmp 18) = .bool q := by kernel_rfl
    have r21 : dval slOps (dahead slOps) (slV va vb q) T 8 (.tmp 21) = .bool q := by kernel_rfl
    exact dstep_value (by simp [dwant, hg, slV]) (show (execOp _ _).run Tryz.prog w' = .ok (.value (.bool true)) w' by simp [execOp, hop, go_sem, r18, r21]) hS
  · obtain ⟨o', ho', hg, hop⟩ := sl_o9
    obtain rfl := Option.some.inj (ho'.symm.trans ho)
    have r15 : dval slOps (dahead slOps) (slV va vb q) T 9 (.tmp 15) = .bool true := by kernel_rfl
    have r22 : dval slOps (dahead slOps) (slV va vb q) T 9 (.tmp 22) = .bool true := by kernel_rfl
    exact dstep_value (by simp [dwant, hg]) (show (execOp _ _).run Tryz.prog w' = .ok (.value (.bool true)) w' by simp [execOp, hop, go_sem, r15, r22]) hS
  · obtain ⟨o', ho', hg, hop⟩ := sl_o10
    obtain rfl := Option.some.inj (ho'.symm.trans ho)
    have r23 : dval slOps (dahead slOps) (slV va vb q) T 10 (.tmp 23) = .bool true := by kernel_rfl
    exact dstep_value (by simp [dwant, hg]) (show (execOp _ _).run Tryz.prog w' = .ok (.value (.bool true)) w' by simp [execOp, hop, go_sem, r23]) hS
  · obtain ⟨o', ho', hg, hop⟩ := sl_o11
    obtain rfl := Option.some.inj (ho'.symm.trans ho)
    have r2 : dval slOps (dahead slOps) (slV va vb q) T 11 (.tmp 2) = p2 := (show _ = T.getD 2 undef by kernel_rfl).trans hT2
    exact dstep_value (by simp [dwant, hg, slV]) (dexec_load hop (by rw [r2]; exact L2 _ hS)) hS
  · obtain ⟨o', ho', hg, hop⟩ := sl_o12
    obtain rfl := Option.some.inj (ho'.symm.trans ho)
    have r2 : dval slOps (dahead slOps) (slV va vb q) T 12 (.tmp 2) = p2 := (show _ = T.getD 2 undef by kernel_rfl).trans hT2
    exact dstep_value (by simp [dwant, hg, slV]) (dexec_load hop (by rw [r2]; exact L2 _ hS)) hS
  · obtain ⟨o', ho', hg, hop⟩ := sl_o13
    obtain rfl := Option.some.inj (ho'.symm.trans ho)
    have r25 : dval slOps (dahead slOps) (slV va vb q) T 13 (.tmp 25) = va := by kernel_rfl
    have r26 : dval slOps (dahead slOps) (slV va vb q) T 13 (.tmp 26) = va := by kernel_rfl
    exact dstep_enter (by simp [dwant, hg, slV]) (dexec_call hop rfl (by simp [go_sem, r25, r26])) (PR _ hS)
  · obtain ⟨o', ho', hg, hop⟩ := sl_o14
    obtain rfl := Option.some.inj (ho'.symm.trans ho)
    have r24 : dval slOps (dahead slOps) (slV va vb q) T 14 (.tmp 24) = .bool true := by kernel_rfl
    have r27 : dval slOps (dahead slOps) (slV va vb q) T 14 (.tmp 27) = .bool true := by kernel_rfl
    exact dstep_value (by simp [dwant, hg]) (show (execOp _ _).run Tryz.prog w' = .ok (.value (.bool true)) w' by simp [execOp, hop, go_sem, r24, r27]) hS
  · obtain ⟨o', ho', hg, hop⟩ := sl_o15
    obtain rfl := Option.some.inj (ho'.symm.trans ho)
    have r28 : dval slOps (dahead slOps) (slV va vb q) T 15 (.tmp 28) = .bool true := by kernel_rfl
    exact dstep_value (by simp [dwant, hg]) (show (execOp _ _).run Tryz.prog w' = .ok (.value (.bool true)) w' by simp [execOp, hop, go_sem, r28]) hS
  · omega

/-- What is kept in this region. -/
def SlS (w W0 : World) (a b : CI) (A1 A2 : Option Addr) (k1 k2 : Nat) (A3 A4 : Option Addr) (k3 k4 : Nat) (W : World) : Prop := Box2 w W a b A1 A2 k1 k2 A3 A4 k3 k4 ∧ Below W0.heap.size W0 W
theorem load9 {W : World} {g : Nat} {a0 a1 a2 a3 a4 a5 a6 a7 a8 : Value} {z : Nat × Nat} (h : W.heap[g]? = some (.cells #[a0, a1, a2, a3, a4, a5, a6, a7, a8] 27 z))
    (s0 : ∃ x, a0 = .string x) (s1 : ∃ x, a1 = .int .i64 x) (s2 : ∃ x, a2 = .string x) (s3 : ∃ A n k, a3 = .slice A n k) (s4 : ∃ x, a4 = .int .i64 x) (s5 : ∃ x, a5 = .int .i64 x) (s6 : ∃ x, a6 = .bool x) (s7 : ∃ x, a7 = .int .u8 x) (s8 : ∃ A n k, a8 = .slice A n k) :
    (Instr.loadAt 27 (.pointer (some ⟨g, 0, none⟩))).run Tryz.prog W = .ok (.agg #[a0, a1, a2, a3, a4, a5, a6, a7, a8]) W := by
  obtain ⟨x0, x1, x2, x3, x4, x5, x6, x7, x8⟩ := cells9 h
  obtain ⟨s, rfl⟩ := s0
  obtain ⟨s, rfl⟩ := s1
  obtain ⟨s, rfl⟩ := s2
  obtain ⟨_, _, _, rfl⟩ := s3
  obtain ⟨s, rfl⟩ := s4
  obtain ⟨s, rfl⟩ := s5
  obtain ⟨s, rfl⟩ := s6
  obtain ⟨s, rfl⟩ := s7
  obtain ⟨_, _, _, rfl⟩ := s8
  simp [go_sem, x0, x1, x2, x3, x4, x5, x6, x7, x8]
set_option maxRecDepth 100000 in
set_option maxHeartbeats 1000000 in
theorem commandSame_big (a : CI) (A1 A2 : Option Addr) (k1 k2 : Nat) (b : CI) (A3 A4 : Option Addr) (k3 k4 : Nat) (w : World) (henv : Env w) (s1 : SlAt encR 2 w A1 a.set) (s2 : ByAt w.heap.size w A2 k2 a.data) (s3 : SlAt encR 2 w A3 b.set) (s4 : ByAt w.heap.size w A4 k4 b.data) (ha : fewC a = true) (hb : fewC b = true) :
    Calls Tryz.prog 5 #[ciV a A1 A2 k1 k2, ciV b A3 A4 k3 k4] w fun e w' => e = .returned (.bool true) ∧ Below w.heap.size w w' := by
  have AL := Lib.hid (fun W (hW : Below w.heap.size w W) => alive7_any W (henv.below hW))
  have FA := Lib.hid (fun W => (few_any a A1 A2 k1 k2 W).mono (fun e w' h => (show e = .returned (.bool true) ∧ Below W.heap.size W w' from ha ▸ h)))
  have FB := Lib.hid (fun W => (few_any b A3 A4 k3 k4 W).mono (fun e w' h => (show e = .returned (.bool true) ∧ Below W.heap.size W w' from hb ▸ h)))
  have da := fewC_bd ha
  have db := fewC_bd hb
  have PS := Lib.hid (fun W (hW : Below w.heap.size w W) => psame_any a b A1 A2 A3 A4 _ k1 _ k2 _ k3 _ k4 rfl rfl rfl rfl (by omega) (by omega) (by omega) (by omega) W (s1.below hW) ((s2.below hW).mono hW.size) (s3.below hW) ((s4.below hW).mono hW.size))
  have RS := Lib.hid (fun W (hW : Below w.heap.size w W) => rsame_any a b A1 A2 A3 A4 _ k1 _ k2 _ k3 _ k4 rfl rfl rfl rfl (by omega) (by omega) (by omega) (by omega) W (s1.below hW) ((s2.below hW).mono hW.size) (s3.below hW) ((s4.below hW).mono hW.size))
  have PR := Lib.hid (fun W (hW : Below w.heap.size w W) => psame_any a a A1 A2 A1 A2 _ k1 _ k2 _ k1 _ k2 rfl rfl rfl rfl (by omega) (by omega) (by omega) (by omega) W (s1.below hW) ((s2.below hW).mono hW.size) (s1.below hW) ((s2.below hW).mono hW.size))
  rw [sameC_refl7] at PR
  have HW := Lib.hid (Box2.start w a b A1 A2 k1 k2 A3 A4 k3 k4)
  clear henv s1 s2 s3 s4 ha hb da db
  unfold ciV at *
  go_enter Tryz.func5, Tryz.ntmps5
  go_upto_region 1 with (fail)
  generalize (w.alloc (.cells #[.string ⟨a.tag.toArray⟩, .int .i64 a.kind, .string ⟨a.mbox.toArray⟩, .slice A1 a.set.length k1, .int .i64 a.items, .int .i64 a.mode, .bool a.silent, .int .u8 a.flags, .slice A2 a.data.length k2] 27)).alloc (.cells #[.string ⟨b.tag.toArray⟩, .int .i64 b.kind, .string ⟨b.mbox.toArray⟩, .slice A3 b.set.length k3, .int .i64 b.items, .int .i64 b.mode, .bool b.silent, .int .u8 b.flags, .slice A4 b.data.length k4] 27) = W2 at *
  obtain ⟨x0, x1, x2, x3, x4, x5, x6, x7, x8⟩ := cells9 HW.out.1
  go_wp2_with fail
  refine (FA.out _).mono ?_
  rintro e w3 ⟨rfl, hb3⟩
  have HW3 := Lib.hid (HW.out.below hb3)
  clear x0 x1 x2 x3 x4 x5 x6 x7 x8 HW hb3 FA
  obtain ⟨y0, y1, y2, y3, y4, y5, y6, y7, y8⟩ := cells9 HW3.out.2.1
  go_wp2_with fail
  refine (FB.out _).mono ?_
  rintro e w4 ⟨rfl, hb4⟩
  have HW4 := Lib.hid (HW3.out.below hb4)
  clear y0 y1 y2 y3 y4 y5 y6 y7 y8 HW3 hb4 FB
  go_upto_region 3 with (fail)
  rename_i K hK
  have HW4b := Lib.hid (HW4.out.below (drewN_below7 w4 1))
  generalize hva : Value.agg #[.string ⟨a.tag.toArray⟩, .int .i64 a.kind, .string ⟨a.mbox.toArray⟩, .slice A1 a.set.length k1, .int .i64 a.items, .int .i64 a.mode, .bool a.silent, .int .u8 a.flags, .slice A2 a.data.length k2] = va at *
  generalize hvb : Value.agg #[.string ⟨b.tag.toArray⟩, .int .i64 b.kind, .string ⟨b.mbox.toArray⟩, .slice A3 b.set.length k3, .int .i64 b.items, .int .i64 b.mode, .bool b.silent, .int .u8 b.flags, .slice A4 b.data.length k4] = vb at *
  have ST := fun T hT2 hT3 => sl_step va vb (sameC a b) (.pointer (some ⟨w.heap.size, 0, none⟩)) (.pointer (some ⟨w.heap.size + 1, 0, none⟩)) T hT2 hT3 (fun W => Box2 w W a b A1 A2 k1 k2 A3 A4 k3 k4)
    (fun W h => by rw [← hva]; exact load9 h.1 ⟨_, rfl⟩ ⟨_, rfl⟩ ⟨_, rfl⟩ ⟨_, _, _, rfl⟩ ⟨_, rfl⟩ ⟨_, rfl⟩ ⟨_, rfl⟩ ⟨_, rfl⟩ ⟨_, _, _, rfl⟩)
    (fun W h => by rw [← hvb]; exact load9 h.2.1 ⟨_, rfl⟩ ⟨_, rfl⟩ ⟨_, rfl⟩ ⟨_, _, _, rfl⟩ ⟨_, rfl⟩ ⟨_, rfl⟩ ⟨_, rfl⟩ ⟨_, rfl⟩ ⟨_, _, _, rfl⟩)
    (fun W h => (AL.out W h.2.2.1).mono fun e w' q => ⟨q.1, h.below q.2⟩)
    (fun W h => (PS.out W h.2.2.1).mono fun e w' q => ⟨q.1, h.below q.2⟩)
    (fun W h => (RS.out W h.2.2.1).mono fun e w' q => ⟨q.1, h.below q.2⟩)
    (fun W h => (PR.out W h.2.2.1).mono fun e w' q => ⟨q.1, h.below q.2⟩)
  clear AL PS RS PR
  refine drawn_region (ops := slOps) (anc := dahead slOps) (V := slV va vb (sameC a b)) (S := fun _ W => Box2 w W a b A1 A2 k1 k2 A3 A4 k3 k4) (R := fun _ _ => False) (by kernel_rfl) sl_fit HW4b.out (ST _ rfl rfl) (fun c a w' _ _ _ h => h.elim) (fun w' h => ?_)
  refine hK _ _ ?_
  clear ST HW4 HW4b
  have HB := Lib.hid h.2.2.1
  go_wp2_with fail
  refine bodyPost_ret (v := .bool true) (by simp [results, Tryz.results5, go_sem]; kernel_rfl) rfl ⟨rfl, HB.out⟩

/-- CommandSame returns true at all commands. -/
theorem commandSame_any (a : CI) (A1 A2 : Option Addr) (k1 k2 : Nat) (b : CI) (A3 A4 : Option Addr) (k3 k4 : Nat) (w : World) (henv : Env w) (s1 : SlAt encR 2 w A1 a.set) (s2 : ByAt w.heap.size w A2 k2 a.data) (s3 : SlAt encR 2 w A3 b.set) (s4 : ByAt w.heap.size w A4 k4 b.data) :
    Calls Tryz.prog 5 #[ciV a A1 A2 k1 k2, ciV b A3 A4 k3 k4] w fun e w' => e = .returned (.bool true) ∧ Below w.heap.size w w' := by
  cases h : (fewC a && fewC b) with
  | false => exact commandSame_few a A1 A2 k1 k2 b A3 A4 k3 k4 w henv h
  | true =>
    rw [Bool.and_eq_true] at h
    exact commandSame_big a A1 A2 k1 k2 b A3 A4 k3 k4 w henv s1 s2 s3 s4 h.1 h.2
end Go.Proofs.YthfopimgdikpgaaGreatDoor
