/- The law ClientPrints: its last region draws its order. -/
import Derived.Test.YtpgfnlhfciacoaaGreatDoorAlive8
import Derived.Test.YtpgfnlhfciacoaaGreatDoorHd
import Derived.Test.YtpgfnlhfciacoaaGreatDoorEqB
namespace Go.Proofs.YtpgfnlhfciacoaaGreatDoor
open Go.RowKit

noncomputable def lpOps : Array Oper := ((Tryz.f3.body).bind (dfind 5)).getD #[]
theorem lp_size : lpOps.size = 19 := by kernel_rfl
theorem lp_o0 : ∃ o, lpOps[0]? = some o ∧ o.guard = none ∧ o.op = .call { callee := .value (.func 10), args := #[], argTypes := #[] } := ⟨_, by rfl, by rfl, by rfl⟩
theorem lp_o1 : ∃ o, lpOps[1]? = some o ∧ o.guard = none ∧ o.op = .move (.tmp 21) := ⟨_, by rfl, by rfl, by rfl⟩
theorem lp_o2 : ∃ o, lpOps[2]? = some o ∧ o.guard = some (1, true) ∧ o.op = .move (.tmp 3) := ⟨_, by rfl, by rfl, by rfl⟩
theorem lp_o3 : ∃ o, lpOps[3]? = some o ∧ o.guard = some (1, true) ∧ o.op = .move (.tmp 5) := ⟨_, by rfl, by rfl, by rfl⟩
theorem lp_o4 : ∃ o, lpOps[4]? = some o ∧ o.guard = some (1, true) ∧ o.op = .call { callee := .value (.func 13), args := #[(.tmp 23), (.tmp 24)], argTypes := #[24, 24] } := ⟨_, by rfl, by rfl, by rfl⟩
theorem lp_o5 : ∃ o, lpOps[5]? = some o ∧ o.guard = none ∧ o.op = .pick (.tmp 22) (.tmp 25) (.const (Value.bool false)) := ⟨_, by rfl, by rfl, by rfl⟩
theorem lp_o6 : ∃ o, lpOps[6]? = some o ∧ o.guard = none ∧ o.op = .move (.tmp 26) := ⟨_, by rfl, by rfl, by rfl⟩
theorem lp_o7 : ∃ o, lpOps[7]? = some o ∧ o.guard = some (6, true) ∧ o.op = .move (.tmp 4) := ⟨_, by rfl, by rfl, by rfl⟩
theorem lp_o8 : ∃ o, lpOps[8]? = some o ∧ o.guard = some (6, true) ∧ o.op = .move (.tmp 6) := ⟨_, by rfl, by rfl, by rfl⟩
theorem lp_o9 : ∃ o, lpOps[9]? = some o ∧ o.guard = some (6, true) ∧ o.op = .binOp .eql 4 (.tmp 28) (.tmp 29) 4 := ⟨_, by rfl, by rfl, by rfl⟩
theorem lp_o10 : ∃ o, lpOps[10]? = some o ∧ o.guard = none ∧ o.op = .pick (.tmp 27) (.tmp 30) (.const (Value.bool false)) := ⟨_, by rfl, by rfl, by rfl⟩
theorem lp_o11 : ∃ o, lpOps[11]? = some o ∧ o.guard = none ∧ o.op = .move (.tmp 31) := ⟨_, by rfl, by rfl, by rfl⟩
theorem lp_o12 : ∃ o, lpOps[12]? = some o ∧ o.guard = some (11, true) ∧ o.op = .load 26 (.tmp 1) := ⟨_, by rfl, by rfl, by rfl⟩
theorem lp_o13 : ∃ o, lpOps[13]? = some o ∧ o.guard = some (11, true) ∧ o.op = .call { callee := .value (.func 14), args := #[(.tmp 33)], argTypes := #[26] } := ⟨_, by rfl, by rfl, by rfl⟩
theorem lp_o14 : ∃ o, lpOps[14]? = some o ∧ o.guard = some (11, true) ∧ o.op = .load 26 (.tmp 1) := ⟨_, by rfl, by rfl, by rfl⟩
theorem lp_o15 : ∃ o, lpOps[15]? = some o ∧ o.guard = some (11, true) ∧ o.op = .call { callee := .value (.func 15), args := #[(.tmp 35)], argTypes := #[26] } := ⟨_, by rfl, by rfl, by rfl⟩
theorem lp_o16 : ∃ o, lpOps[16]? = some o ∧ o.guard = some (11, true) ∧ o.op = .binOp .eql 3 (.tmp 34) (.tmp 36) 3 := ⟨_, by rfl, by rfl, by rfl⟩
theorem lp_o17 : ∃ o, lpOps[17]? = some o ∧ o.guard = none ∧ o.op = .pick (.tmp 32) (.tmp 37) (.const (Value.bool false)) := ⟨_, by rfl, by rfl, by rfl⟩
theorem lp_o18 : ∃ o, lpOps[18]? = some o ∧ o.guard = none ∧ o.op = .assign (.tmp 38) := ⟨_, by rfl, by rfl, by rfl⟩
theorem lp_fit : dfits lpOps (dahead lpOps) 39 = true := by kernel_rfl
def lpV (A A2 : Option Addr) (n c c2 : Nat) (q : Bool) (k : Int) (cv : Value) : Nat → Value
  | 0 => .bool true
  | 1 => .bool true
  | 2 => .slice A n c
  | 3 => .slice A2 n c2
  | 4 => .bool true
  | 5 => .bool true
  | 6 => .bool true
  | 7 => .bool q
  | 8 => .bool q
  | 9 => .bool true
  | 10 => .bool true
  | 11 => .bool true
  | 12 => cv
  | 13 => .int .i64 k
  | 14 => cv
  | 15 => .int .i64 k
  | 16 => .bool true
  | 17 => .bool true
  | 18 => .bool true
  | _ => undef

set_option maxRecDepth 100000 in
set_option maxHeartbeats 1000000 in
theorem lp_step (A A2 : Option Addr) (n c c2 : Nat) (q : Bool) (k : Int) (cv p1 : Value) (T : Array Value) (hT1 : T.getD 1 undef = p1) (hT3 : T.getD 3 undef = .slice A n c) (hT4 : T.getD 4 undef = .bool q) (hT5 : T.getD 5 undef = .slice A2 n c2) (hT6 : T.getD 6 undef = .bool q) (S : World → Prop)
    (L1 : ∀ W, S W → (Instr.loadAt 26 p1).run Tryz.prog W = .ok cv W)
    (AL : ∀ W, S W → Calls Tryz.prog 10 #[] W fun e w' => e = .returned (.bool true) ∧ S w')
    (EQ : ∀ W, S W → Calls Tryz.prog 13 #[.slice A n c, .slice A2 n c2] W fun e w' => e = .returned (.bool true) ∧ S w')
    (PL : ∀ W, S W → Calls Tryz.prog 14 #[cv] W fun e w' => e = .returned (.int .i64 k) ∧ S w')
    (RL : ∀ W, S W → Calls Tryz.prog 15 #[cv] W fun e w' => e = .returned (.int .i64 k) ∧ S w') :
    ∀ i o, lpOps[i]? = some o → ∀ (m : Nat → Bool) w', (∀ k ∈ dal (dahead lpOps) i, m k = true) → m i = false → S w' → DStep Tryz.prog o (dval lpOps (dahead lpOps) (lpV A A2 n c c2 q k cv) T i) (lpV A A2 n c c2 q k cv) i S (fun _ _ => False) w' := by
  intro i o ho m w' _ _ hS
  have hi : i < 19 := by rw [← lp_size]; exact (Array.getElem?_eq_some_iff.1 ho).1
  rcases i with _ | _ | _ | _ | _ | _ | _ | _ | _ | _ | _ | _ | _ | _ | _ | _ | _ | _ | _ | i
  · obtain ⟨o', ho', hg, hop⟩ := lp_o0
    obtain rfl := Option.some.inj (ho'.symm.trans ho)
    exact dstep_enter (by simp [dwant, hg]) (dexec_call hop rfl (by simp [go_sem])) (AL _ hS)
  · obtain ⟨o', ho', hg, hop⟩ := lp_o1
    obtain rfl := Option.some.inj (ho'.symm.trans ho)
    have r21 : dval lpOps (dahead lpOps) (lpV A A2 n c c2 q k cv) T 1 (.tmp 21) = .bool true := by kernel_rfl
    exact dstep_value (by simp [dwant, hg]) (show (execOp _ _).run Tryz.prog w' = .ok (.value (.bool true)) w' by simp [execOp, hop, go_sem, r21]) hS
  · obtain ⟨o', ho', hg, hop⟩ := lp_o2
    obtain rfl := Option.some.inj (ho'.symm.trans ho)
    have r3 : dval lpOps (dahead lpOps) (lpV A A2 n c c2 q k cv) T 2 (.tmp 3) = .slice A n c := (show _ = T.getD 3 undef by kernel_rfl).trans hT3
    exact dstep_value (by simp [dwant, hg, lpV]) (show (execOp _ _).run Tryz.prog w' = .ok (.value (.slice A n c)) w' by simp [execOp, hop, go_sem, r3]) hS
  · obtain ⟨o', ho', hg, hop⟩ := lp_o3
    obtain rfl := Option.some.inj (ho'.symm.trans ho)
    have r5 : dval lpOps (dahead lpOps) (lpV A A2 n c c2 q k cv) T 3 (.tmp 5) = .slice A2 n c2 := (show _ = T.getD 5 undef by kernel_rfl).trans hT5
    exact dstep_value (by simp [dwant, hg, lpV]) (show (execOp _ _).run Tryz.prog w' = .ok (.value (.slice A2 n c2)) w' by simp [execOp, hop, go_sem, r5]) hS
  · obtain ⟨o', ho', hg, hop⟩ := lp_o4
    obtain rfl := Option.some.inj (ho'.symm.trans ho)
    have r23 : dval lpOps (dahead lpOps) (lpV A A2 n c c2 q k cv) T 4 (.tmp 23) = .slice A n c := by kernel_rfl
    have r24 : dval lpOps (dahead lpOps) (lpV A A2 n c c2 q k cv) T 4 (.tmp 24) = .slice A2 n c2 := by kernel_rfl
    exact dstep_enter (by simp [dwant, hg, lpV]) (dexec_call hop rfl (by simp [go_sem, r23, r24])) (EQ _ hS)
  · obtain ⟨o', ho', hg, hop⟩ := lp_o5
    obtain rfl := Option.some.inj (ho'.symm.trans ho)
    have r22 : dval lpOps (dahead lpOps) (lpV A A2 n c c2 q k cv) T 5 (.tmp 22) = .bool true := by kernel_rfl
    have r25 : dval lpOps (dahead lpOps) (lpV A A2 n c c2 q k cv) T 5 (.tmp 25) = .bool true := by kernel_rfl
    exact dstep_value (by simp [dwant, hg]) (show (execOp _ _).run Tryz.prog w' = .ok (.value (.bool true)) w' by simp [execOp, hop, go_sem, r22, r25]) hS
  · obtain ⟨o', ho', hg, hop⟩ := lp_o6
    obtain rfl := Option.some.inj (ho'.symm.trans ho)
    have r26 : dval lpOps (dahead lpOps) (lpV A A2 n c c2 q k cv) T 6 (.tmp 26) = .bool true := by kernel_rfl
    exact dstep_value (by simp [dwant, hg]) (show (execOp _ _).run Tryz.prog w' = .ok (.value (.bool true)) w' by simp [execOp, hop, go_sem, r26]) hS
  · obtain ⟨o', ho', hg, hop⟩ := lp_o7
    obtain rfl := Option.some.inj (ho'.symm.trans ho)
    have r4 : dval lpOps (dahead lpOps) (lpV A A2 n c c2 q k cv) T 7 (.tmp 4) = .bool q := (show _ = T.getD 4 undef by kernel_rfl).trans hT4
    exact dstep_value (by simp [dwant, hg, lpV]) (show (execOp _ _).run Tryz.prog w' = .ok (.value (.bool q)) w' by simp [execOp, hop, go_sem, r4]) hS
  · obtain ⟨o', ho', hg, hop⟩ := lp_o8
    obtain rfl := Option.some.inj (ho'.symm.trans ho)
    have r6 : dval lpOps (dahead lpOps) (lpV A A2 n c c2 q k cv) T 8 (.tmp 6) = .bool q := (show _ = T.getD 6 undef by kernel_rfl).trans hT6
    exact dstep_value (by simp [dwant, hg, lpV]) (show (execOp _ _).run Tryz.prog w' = .ok (.value (.bool q)) w' by simp [execOp, hop, go_sem, r6]) hS
  · obtain ⟨o', ho', hg, hop⟩ := lp_o9
    obtain rfl := Option.some.inj (ho'.symm.trans ho)
    have r28 : dval lpOps (dahead lpOps) (lpV A A2 n c c2 q k cv) T 9 (.tmp 28) = .bool q := by kernel_rfl
    have r29 : dval lpOps (dahead lpOps) (lpV A A2 n c c2 q k cv) T 9 (.tmp 29) = .bool q := by kernel_rfl
    exact dstep_value (by simp [dwant, hg, lpV]) (show (execOp _ _).run Tryz.prog w' = .ok (.value (.bool true)) w' by simp [execOp, hop, go_sem, r28, r29]) hS
  · obtain ⟨o', ho', hg, hop⟩ := lp_o10
    obtain rfl := Option.some.inj (ho'.symm.trans ho)
    have r27 : dval lpOps (dahead lpOps) (lpV A A2 n c c2 q k cv) T 10 (.tmp 27) = .bool true := by kernel_rfl
    have r30 : dval lpOps (dahead lpOps) (lpV A A2 n c c2 q k cv) T 10 (.tmp 30) = .bool true := by kernel_rfl
    exact dstep_value (by simp [dwant, hg]) (show (execOp _ _).run Tryz.prog w' = .ok (.value (.bool true)) w' by simp [execOp, hop, go_sem, r27, r30]) hS
  · obtain ⟨o', ho', hg, hop⟩ := lp_o11
    obtain rfl := Option.some.inj (ho'.symm.trans ho)
    have r31 : dval lpOps (dahead lpOps) (lpV A A2 n c c2 q k cv) T 11 (.tmp 31) = .bool true := by kernel_rfl
    exact dstep_value (by simp [dwant, hg]) (show (execOp _ _).run Tryz.prog w' = .ok (.value (.bool true)) w' by simp [execOp, hop, go_sem, r31]) hS
  · obtain ⟨o', ho', hg, hop⟩ := lp_o12
    obtain rfl := Option.some.inj (ho'.symm.trans ho)
    have r1 : dval lpOps (dahead lpOps) (lpV A A2 n c c2 q k cv) T 12 (.tmp 1) = p1 := (show _ = T.getD 1 undef by kernel_rfl).trans hT1
    exact dstep_value (by simp [dwant, hg, lpV]) (dexec_load hop (by rw [r1]; exact L1 _ hS)) hS
  · obtain ⟨o', ho', hg, hop⟩ := lp_o13
    obtain rfl := Option.some.inj (ho'.symm.trans ho)
    have r33 : dval lpOps (dahead lpOps) (lpV A A2 n c c2 q k cv) T 13 (.tmp 33) = cv := by kernel_rfl
    exact dstep_enter (by simp [dwant, hg, lpV]) (dexec_call hop rfl (by simp [go_sem, r33])) (PL _ hS)
  · obtain ⟨o', ho', hg, hop⟩ := lp_o14
    obtain rfl := Option.some.inj (ho'.symm.trans ho)
    have r1 : dval lpOps (dahead lpOps) (lpV A A2 n c c2 q k cv) T 14 (.tmp 1) = p1 := (show _ = T.getD 1 undef by kernel_rfl).trans hT1
    exact dstep_value (by simp [dwant, hg, lpV]) (dexec_load hop (by rw [r1]; exact L1 _ hS)) hS
  · obtain ⟨o', ho', hg, hop⟩ := lp_o15
    obtain rfl := Option.some.inj (ho'.symm.trans ho)
    have r35 : dval lpOps (dahead lpOps) (lpV A A2 n c c2 q k cv) T 15 (.tmp 35) = cv := by kernel_rfl
    exact dstep_enter (by simp [dwant, hg, lpV]) (dexec_call hop rfl (by simp [go_sem, r35])) (RL _ hS)
  · obtain ⟨o', ho', hg, hop⟩ := lp_o16
    obtain rfl := Option.some.inj (ho'.symm.trans ho)
    have r34 : dval lpOps (dahead lpOps) (lpV A A2 n c c2 q k cv) T 16 (.tmp 34) = .int .i64 k := by kernel_rfl
    have r36 : dval lpOps (dahead lpOps) (lpV A A2 n c c2 q k cv) T 16 (.tmp 36) = .int .i64 k := by kernel_rfl
    exact dstep_value (by simp [dwant, hg, lpV]) (show (execOp _ _).run Tryz.prog w' = .ok (.value (.bool true)) w' by simp [execOp, hop, go_sem, r34, r36]) hS
  · obtain ⟨o', ho', hg, hop⟩ := lp_o17
    obtain rfl := Option.some.inj (ho'.symm.trans ho)
    have r32 : dval lpOps (dahead lpOps) (lpV A A2 n c c2 q k cv) T 17 (.tmp 32) = .bool true := by kernel_rfl
    have r37 : dval lpOps (dahead lpOps) (lpV A A2 n c c2 q k cv) T 17 (.tmp 37) = .bool true := by kernel_rfl
    exact dstep_value (by simp [dwant, hg]) (show (execOp _ _).run Tryz.prog w' = .ok (.value (.bool true)) w' by simp [execOp, hop, go_sem, r32, r37]) hS
  · obtain ⟨o', ho', hg, hop⟩ := lp_o18
    obtain rfl := Option.some.inj (ho'.symm.trans ho)
    have r38 : dval lpOps (dahead lpOps) (lpV A A2 n c c2 q k cv) T 18 (.tmp 38) = .bool true := by kernel_rfl
    exact dstep_value (by simp [dwant, hg]) (show (execOp _ _).run Tryz.prog w' = .ok (.value (.bool true)) w' by simp [execOp, hop, go_sem, r38]) hS
  · omega

theorem LitN.ex (a : CI) : ∃ k, LitN a k := by
  by_cases h : validC a = true ∧ ∃ j, Sent (textT a) j
  · obtain ⟨h1, j, h2⟩ := h
    exact ⟨j, .inl ⟨h1, h2⟩⟩
  · exact ⟨0, .inr ⟨h, rfl⟩⟩
/-- What is kept in this region. -/
structure LpS (w : World) (cs : Array Value) (A A2 : Option Addr) (c c2 : Nat) (l : List UInt8) (W : World) : Prop where
  row : W.heap[w.heap.size]? = some (.cells cs 26 (0, 0))
  bel : Below w.heap.size w W
  lt : w.heap.size < W.heap.size
  b1 : ByAt W.heap.size W A c l
  b2 : ByAt W.heap.size W A2 c2 l
theorem LpS.below {w W W' : World} {cs : Array Value} {A A2 : Option Addr} {c c2 : Nat} {l : List UInt8} (h : LpS w cs A A2 c c2 l W) (hb : Below W.heap.size W W') : LpS w cs A A2 c c2 l W' :=
  ⟨(hb.block _ h.lt).trans h.row, below_next h.bel hb, Nat.lt_of_lt_of_le h.lt hb.size, (h.b1.below hb).mono hb.size, (h.b2.below hb).mono hb.size⟩

set_option maxRecDepth 100000 in
set_option maxHeartbeats 2000000 in
theorem clientPrints_any (a : CI) (A1 A2 : Option Addr) (k1 k2 : Nat) (ok : CIok a) (w : World) (he : EnvB w.heap.size w) (s1 : SlAt encR 2 w A1 a.set) (s2 : ByAt w.heap.size w A2 k2 a.data) :
    Calls Tryz.prog 3 #[ciV a A1 A2 k1 k2] w fun e w' => e = .returned (.bool true) ∧ Below w.heap.size w w' := by
  have HX := Lib.hid (heap_alloc_new w (.cells #[.string ⟨a.tag.toArray⟩, .int .i64 a.kind, .string ⟨a.mbox.toArray⟩, .slice A1 a.set.length k1, .int .i64 a.items, .int .i64 a.mode, .bool a.silent, .int .u8 a.flags, .slice A2 a.data.length k2] 26))
  have HB := Lib.hid (below_al w (.cells #[.string ⟨a.tag.toArray⟩, .int .i64 a.kind, .string ⟨a.mbox.toArray⟩, .slice A1 a.set.length k1, .int .i64 a.items, .int .i64 a.mode, .bool a.silent, .int .u8 a.flags, .slice A2 a.data.length k2] 26))
  have HZ : Hid (_ = w.heap.size + 1) := Lib.hid (World.size_alloc w (.cells #[.string ⟨a.tag.toArray⟩, .int .i64 a.kind, .string ⟨a.mbox.toArray⟩, .slice A1 a.set.length k1, .int .i64 a.items, .int .i64 a.mode, .bool a.silent, .int .u8 a.flags, .slice A2 a.data.length k2] 26))
  have AL := Lib.hid (fun W (hW : Below w.heap.size w W) => alive8_any W ((he.below hW).mono hW.size))
  have FA := Lib.hid (fun W => few_any a A1 A2 k1 k2 W)
  cases hfw : fewC a with
  | false =>
    rw [hfw] at FA
    clear s1 s2 hfw he ok
    unfold ciV at *
    go_enter Tryz.func3, Tryz.ntmps3
    go_upto_region 1 with (fail)
    generalize w.alloc (.cells #[.string ⟨a.tag.toArray⟩, .int .i64 a.kind, .string ⟨a.mbox.toArray⟩, .slice A1 a.set.length k1, .int .i64 a.items, .int .i64 a.mode, .bool a.silent, .int .u8 a.flags, .slice A2 a.data.length k2] 26) = W2 at *
    obtain ⟨x0, x1, x2, x3, x4, x5, x6, x7, x8⟩ := cells9 HX.out
    go_wp2_with fail
    refine (FA.out _).mono ?_
    rintro e w3 ⟨rfl, hb3⟩
    have HB3 := Lib.hid (below_next HB.out hb3)
    clear x0 x1 x2 x3 x4 x5 x6 x7 x8 HX hb3
    go_wp2_with fail
    refine (AL.out _ HB3.out).mono ?_
    rintro e w4 ⟨rfl, hb4⟩
    go_wp2_with fail
    go_ret
    exact ⟨rfl, below_next HB3.out hb4⟩
  | true =>
    rw [hfw] at FA
    obtain ⟨lt, lm, ls, ld⟩ := fewC_all hfw
    obtain ⟨k, hk⟩ := LitN.ex a
    have PR := Lib.hid (fun W (hW : Below w.heap.size w W) => cprint_any a A1 A2 k1 k2 ok.flags ok.ranges (by omega) (by omega) (by omega) (by omega) W ((he.below hW).mono hW.size) (s1.below hW) ((s2.below hW).mono hW.size))
    have RP := Lib.hid (fun W (hW : Below w.heap.size w W) => rprint_any a A1 A2 k1 k2 ok.flags ok.ranges (by omega) (by omega) (by omega) (by omega) W (s1.below hW) ((s2.below hW).mono hW.size))
    have PL : Hid (∀ W, Below w.heap.size w W → Calls Tryz.prog 14 #[ciV a A1 A2 k1 k2] W fun e w' => e = .returned (.int .i64 (k : Int)) ∧ Below W.heap.size W w') := Lib.hid (fun W hW => (cliterals_any a A1 A2 k1 k2 ok.flags ok.ranges (by omega) (by omega) (by omega) (by omega) W ((he.below hW).mono hW.size) (s1.below hW) ((s2.below hW).mono hW.size)).mono fun e w' ⟨j, h1, h2, h3⟩ => ⟨by rw [h1, h2.det hk], h3⟩)
    have RL : Hid (∀ W, Below w.heap.size w W → Calls Tryz.prog 15 #[ciV a A1 A2 k1 k2] W fun e w' => e = .returned (.int .i64 (k : Int)) ∧ Below W.heap.size W w') := Lib.hid (fun W hW => (rliterals_any a A1 A2 k1 k2 ok.flags ok.ranges (by omega) (by omega) (by omega) (by omega) W (s1.below hW) ((s2.below hW).mono hW.size)).mono fun e w' ⟨j, h1, h2, h3⟩ => ⟨by rw [h1, h2.det hk], h3⟩)
    have HLN : Hid (validC a = true → (textT a ++ [13, 10]).length ≤ 900002) := Lib.hid (fun hv => by
      obtain ⟨v1, v2, v3, v4, v5, v6⟩ := validC_int hv
      have := textT_len ok.flags.1 (validC_bd hv).2.2 v3 v4 ok.ranges (by omega) (by omega) (by omega) (by omega)
      rw [List.length_append]
      simp only [List.length_cons, List.length_nil]
      omega)
    clear s1 s2 hfw he ok lt lm ls ld hk
    unfold ciV at *
    go_enter Tryz.func3, Tryz.ntmps3
    go_upto_region 1 with (fail)
    generalize w.alloc (.cells #[.string ⟨a.tag.toArray⟩, .int .i64 a.kind, .string ⟨a.mbox.toArray⟩, .slice A1 a.set.length k1, .int .i64 a.items, .int .i64 a.mode, .bool a.silent, .int .u8 a.flags, .slice A2 a.data.length k2] 26) = W2 at *
    obtain ⟨x0, x1, x2, x3, x4, x5, x6, x7, x8⟩ := cells9 HX.out
    go_wp2_with fail
    refine (FA.out _).mono ?_
    rintro e w3 ⟨rfl, hb3⟩
    have HB3 := Lib.hid (below_next HB.out hb3)
    have HX3 := Lib.hid ((hb3.block w.heap.size (by have := HZ.out; omega)).trans HX.out)
    have HZ3 := Lib.hid (show w.heap.size < w3.heap.size by have := HZ.out; have := hb3.size; omega)
    clear x0 x1 x2 x3 x4 x5 x6 x7 x8 HX hb3 FA HB HZ
    obtain ⟨x0, x1, x2, x3, x4, x5, x6, x7, x8⟩ := cells9 HX3.out
    go_wp2_with fail
    refine (PR.out _ HB3.out).mono ?_
    intro e w4 h4
    have hb4 : Below w3.heap.size w3 w4 := by rcases h4 with ⟨_, _, _, _, _, h⟩ | ⟨_, _, h⟩ <;> exact h
    have HB4 := Lib.hid (below_next HB3.out hb4)
    have HX4 := Lib.hid ((hb4.block w.heap.size HZ3.out).trans HX3.out)
    have HZ4 := Lib.hid (Nat.lt_of_lt_of_le HZ3.out hb4.size)
    obtain ⟨y0, y1, y2, y3, y4, y5, y6, y7, y8⟩ := cells9 HX4.out
    have RP4 := Lib.hid (RP.out _ HB4.out)
    clear x0 x1 x2 x3 x4 x5 x6 x7 x8 HX3 HB3 HZ3 RP PR
    obtain ⟨A, c, q, l, hl9, rfl, by1, hcase⟩ : ∃ A c q l, l.length ≤ 900002 ∧ e = .returned (.tuple #[.slice A l.length c, .bool q]) ∧ ByAt w4.heap.size w4 A c l ∧ ((q = true ∧ l = textT a ++ [13, 10] ∧ validC a = true ∧ ∃ j, Sent (textT a) j) ∨ (q = false ∧ l = [] ∧ ¬ (validC a = true ∧ ∃ j, Sent (textT a) j))) := by
      rcases h4 with ⟨hv, A, c, he, hy, _⟩ | ⟨hno, he, _⟩
      · exact ⟨A, c, true, _, HLN.out hv.1, he, hy, .inl ⟨rfl, rfl, hv⟩⟩
      · exact ⟨none, 0, false, [], by simp, he, ⟨Nat.le_refl _, .inl rfl⟩, .inr ⟨rfl, rfl, hno⟩⟩
    have BY1 := Lib.hid by1
    have HC := Lib.hid hcase
    obtain ⟨n, hn⟩ : ∃ n, l.length = n := ⟨_, rfl⟩
    rw [hn] at hl9 ⊢
    have HN := Lib.hid hn
    clear h4 hb4 by1 hcase hn HLN
    go_wp2_with fail
    refine RP4.out.mono ?_
    intro e w5 h5
    have hb5 : Below w4.heap.size w4 w5 := by rcases h5 with ⟨_, _, _, _, _, h⟩ | ⟨_, _, h⟩ <;> exact h
    obtain ⟨B, d, rfl, by2⟩ : ∃ B d, e = .returned (.tuple #[.slice B n d, .bool q]) ∧ ByAt w5.heap.size w5 B d l := by
      rcases h5 with ⟨hv, B, d, he, hy, _⟩ | ⟨hno, he, _⟩
      · rcases HC.out with ⟨rfl, rfl, _⟩ | ⟨_, _, hno⟩
        · exact ⟨B, d, by rw [he, HN.out], hy⟩
        · exact absurd hv hno
      · rcases HC.out with ⟨_, _, hv⟩ | ⟨rfl, rfl, _⟩
        · exact absurd hv hno
        · exact ⟨none, 0, by rw [he, ← HN.out]; rfl, ⟨Nat.le_refl _, .inl rfl⟩⟩
    have HS : Hid (LpS w #[.string ⟨a.tag.toArray⟩, .int .i64 a.kind, .string ⟨a.mbox.toArray⟩, .slice A1 a.set.length k1, .int .i64 a.items, .int .i64 a.mode, .bool a.silent, .int .u8 a.flags, .slice A2 a.data.length k2] A B c d l w5) :=
      Lib.hid ⟨(hb5.block w.heap.size HZ4.out).trans HX4.out, below_next HB4.out hb5, Nat.lt_of_lt_of_le HZ4.out hb5.size, (BY1.out.below hb5).mono hb5.size, by2⟩
    clear y0 y1 y2 y3 y4 y5 y6 y7 y8 HX4 HZ4 HB4 BY1 by2 h5 hb5 HC RP4
    go_upto_region 5 with (fail)
    rename_i K hK
    have ST := fun T h1 h3 h4 h5 h6 => lp_step A B n c d q k (.agg #[.string ⟨a.tag.toArray⟩, .int .i64 a.kind, .string ⟨a.mbox.toArray⟩, .slice A1 a.set.length k1, .int .i64 a.items, .int .i64 a.mode, .bool a.silent, .int .u8 a.flags, .slice A2 a.data.length k2]) (.pointer (some ⟨w.heap.size, 0, none⟩)) T h1 h3 h4 h5 h6
      (LpS w #[.string ⟨a.tag.toArray⟩, .int .i64 a.kind, .string ⟨a.mbox.toArray⟩, .slice A1 a.set.length k1, .int .i64 a.items, .int .i64 a.mode, .bool a.silent, .int .u8 a.flags, .slice A2 a.data.length k2] A B c d l)
      (fun W h => load9 h.row ⟨_, rfl⟩ ⟨_, rfl⟩ ⟨_, rfl⟩ ⟨_, _, _, rfl⟩ ⟨_, rfl⟩ ⟨_, rfl⟩ ⟨_, rfl⟩ ⟨_, rfl⟩ ⟨_, _, _, rfl⟩)
      (fun W h => (AL.out W h.bel).mono fun e w' p => ⟨p.1, h.below p.2⟩)
      (fun W h => (equalB_any _ _ A B c d n n l l HN.out HN.out (by omega) (by omega) W h.b1 h.b2).mono fun e w' p => ⟨by rw [p.1]; simp, h.below p.2⟩)
      (fun W h => (PL.out W h.bel).mono fun e w' p => ⟨p.1, h.below p.2⟩)
      (fun W h => (RL.out W h.bel).mono fun e w' p => ⟨p.1, h.below p.2⟩)
    have HS2 := Lib.hid (HS.out.below (drewN_below7 w5 1))
    refine drawn_region (ops := lpOps) (anc := dahead lpOps) (V := lpV A B n c d q k (.agg #[.string ⟨a.tag.toArray⟩, .int .i64 a.kind, .string ⟨a.mbox.toArray⟩, .slice A1 a.set.length k1, .int .i64 a.items, .int .i64 a.mode, .bool a.silent, .int .u8 a.flags, .slice A2 a.data.length k2])) (S := fun _ W => LpS w #[.string ⟨a.tag.toArray⟩, .int .i64 a.kind, .string ⟨a.mbox.toArray⟩, .slice A1 a.set.length k1, .int .i64 a.items, .int .i64 a.mode, .bool a.silent, .int .u8 a.flags, .slice A2 a.data.length k2] A B c d l W) (R := fun _ _ => False) (by kernel_rfl) lp_fit HS2.out (ST _ rfl rfl rfl rfl rfl) (fun c a w' _ _ _ h => h.elim) (fun w' h => ?_)
    refine hK _ _ ?_
    clear ST HS HS2 AL PL RL
    have HB := Lib.hid h.bel
    go_wp2_with fail
    refine bodyPost_ret (v := .bool true) (by simp [results, Tryz.results3, go_sem]; kernel_rfl) rfl ⟨rfl, HB.out⟩
end Go.Proofs.YtpgfnlhfciacoaaGreatDoor
