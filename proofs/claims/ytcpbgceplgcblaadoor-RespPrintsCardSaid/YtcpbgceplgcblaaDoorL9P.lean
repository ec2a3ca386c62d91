/- The law RespPrints: the walk. -/
import Derived.Test.YtcpbgceplgcblaaDoorGj
import Derived.Test.YtcpbgceplgcblaaDoorRsRefV4
import Derived.Test.YtcpbgceplgcblaaDoorRsRefF
import Derived.Test.YtcpbgceplgcblaaDoorRsFew
import Derived.Test.YtcpbgceplgcblaaDoorDrawn
import Derived.Deep.Cut
namespace Go.Proofs.YtcpbgceplgcblaaDoor
open Go.RowKit

noncomputable def ppOps : Array Oper := ((Tryd.f3.body).bind (dfind 6)).getD #[]
theorem pp_size : ppOps.size = 16 := by kernel_rfl
theorem pp_o0 : ∃ o, ppOps[0]? = some o ∧ o.guard = none ∧ o.op = .call { callee := .value (.func 10), args := #[], argTypes := #[] } := ⟨_, by rfl, by rfl, by rfl⟩
theorem pp_o1 : ∃ o, ppOps[1]? = some o ∧ o.guard = none ∧ o.op = .move (.tmp 33) := ⟨_, by rfl, by rfl, by rfl⟩
theorem pp_o2 : ∃ o, ppOps[2]? = some o ∧ o.guard = some (1, true) ∧ o.op = .move (.tmp 3) := ⟨_, by rfl, by rfl, by rfl⟩
theorem pp_o3 : ∃ o, ppOps[3]? = some o ∧ o.guard = some (1, true) ∧ o.op = .convert 24 9 (.tmp 35) := ⟨_, by rfl, by rfl, by rfl⟩
theorem pp_o4 : ∃ o, ppOps[4]? = some o ∧ o.guard = some (1, true) ∧ o.op = .load 26 (.tmp 1) := ⟨_, by rfl, by rfl, by rfl⟩
theorem pp_o5 : ∃ o, ppOps[5]? = some o ∧ o.guard = some (1, true) ∧ o.op = .call { callee := .value (.func 14), args := #[(.tmp 37)], argTypes := #[26] } := ⟨_, by rfl, by rfl, by rfl⟩
theorem pp_o6 : ∃ o, ppOps[6]? = some o ∧ o.guard = some (1, true) ∧ o.op = .binOp .eql 9 (.tmp 36) (.tmp 38) 9 := ⟨_, by rfl, by rfl, by rfl⟩
theorem pp_o7 : ∃ o, ppOps[7]? = some o ∧ o.guard = none ∧ o.op = .pick (.tmp 34) (.tmp 39) (.const (Value.bool false)) := ⟨_, by rfl, by rfl, by rfl⟩
theorem pp_o8 : ∃ o, ppOps[8]? = some o ∧ o.guard = none ∧ o.op = .move (.tmp 40) := ⟨_, by rfl, by rfl, by rfl⟩
theorem pp_o9 : ∃ o, ppOps[9]? = some o ∧ o.guard = some (8, true) ∧ o.op = .move (.tmp 4) := ⟨_, by rfl, by rfl, by rfl⟩
theorem pp_o10 : ∃ o, ppOps[10]? = some o ∧ o.guard = none ∧ o.op = .pick (.tmp 41) (.tmp 42) (.const (Value.bool false)) := ⟨_, by rfl, by rfl, by rfl⟩
theorem pp_o11 : ∃ o, ppOps[11]? = some o ∧ o.guard = none ∧ o.op = .move (.tmp 43) := ⟨_, by rfl, by rfl, by rfl⟩
theorem pp_o12 : ∃ o, ppOps[12]? = some o ∧ o.guard = some (11, true) ∧ o.op = .load 26 (.tmp 1) := ⟨_, by rfl, by rfl, by rfl⟩
theorem pp_o13 : ∃ o, ppOps[13]? = some o ∧ o.guard = some (11, true) ∧ o.op = .call { callee := .value (.func 13), args := #[(.tmp 45)], argTypes := #[26] } := ⟨_, by rfl, by rfl, by rfl⟩
theorem pp_o14 : ∃ o, ppOps[14]? = some o ∧ o.guard = none ∧ o.op = .pick (.tmp 44) (.tmp 46) (.const (Value.bool false)) := ⟨_, by rfl, by rfl, by rfl⟩
theorem pp_o15 : ∃ o, ppOps[15]? = some o ∧ o.guard = none ∧ o.op = .assign (.tmp 47) := ⟨_, by rfl, by rfl, by rfl⟩
theorem pp_fit : dfits ppOps (dahead ppOps) 48 = true := by kernel_rfl
def ppV (A2 : Option Addr) (n c2 : Nat) (F : ByteArray) (va : Value) : Nat → Value
  | 0 => .bool true
  | 1 => .bool true
  | 2 => .slice A2 n c2
  | 3 => .string F
  | 4 => va
  | 5 => .string F
  | 6 => .bool true
  | 7 => .bool true
  | 8 => .bool true
  | 9 => .bool true
  | 10 => .bool true
  | 11 => .bool true
  | 12 => va
  | 13 => .bool true
  | 14 => .bool true
  | 15 => .bool true
  | _ => undef
set_option maxRecDepth 100000 in
set_option maxHeartbeats 1000000 in
theorem pp_step (A2 : Option Addr) (n c2 : Nat) (F : ByteArray) (va : Value) (p1 : Value) (T : Array Value) (hT1 : T.getD 1 undef = p1) (hT3 : T.getD 3 undef = .slice A2 n c2) (hT4 : T.getD 4 undef = .bool true) (S : World → Prop)
    (AL : ∀ W, S W → Calls Tryd.prog 10 #[] W fun e w' => e = .returned (.bool true) ∧ S w')
    (CV : ∀ W, S W → (convert 24 9 (.slice A2 n c2)).run Tryd.prog W = .ok (.string F) W)
    (L1 : ∀ W, S W → (Instr.loadAt 26 p1).run Tryd.prog W = .ok va W)
    (RF : ∀ W, S W → Calls Tryd.prog 14 #[va] W fun e w' => e = .returned (.string F) ∧ S w')
    (PV : ∀ W, S W → Calls Tryd.prog 13 #[va] W fun e w' => e = .returned (.bool true) ∧ S w') :
    ∀ i o, ppOps[i]? = some o → ∀ (m : Nat → Bool) w', (∀ k ∈ dal (dahead ppOps) i, m k = true) → m i = false → S w' → DStep Tryd.prog o (dval ppOps (dahead ppOps) (ppV A2 n c2 F va) T i) (ppV A2 n c2 F va) i S (fun _ _ => False) w' := by
  intro i o ho m w' _ _ hS
  have hi : i < 16 := by rw [← pp_size]; exact (Array.getElem?_eq_some_iff.1 ho).1
  rcases i with _ | _ | _ | _ | _ | _ | _ | _ | _ | _ | _ | _ | _ | _ | _ | _ | i
  · obtain ⟨o', ho', hg, hop⟩ := pp_o0
    obtain rfl := Option.some.inj (ho'.symm.trans ho)
    exact dstep_enter (by simp [dwant, hg]) (dexec_call hop rfl (by simp [go_sem])) (AL _ hS)
  · obtain ⟨o', ho', hg, hop⟩ := pp_o1
    obtain rfl := Option.some.inj (ho'.symm.trans ho)
    have r33 : dval ppOps (dahead ppOps) (ppV A2 n c2 F va) T 1 (.tmp 33) = .bool true := by kernel_rfl
    exact dstep_value (by simp [dwant, hg]) (show (execOp _ _).run Tryd.prog w' = .ok (.value (.bool true)) w' by simp [execOp, hop, go_sem, r33]) hS
  · obtain ⟨o', ho', hg, hop⟩ := pp_o2
    obtain rfl := Option.some.inj (ho'.symm.trans ho)
    have r3 : dval ppOps (dahead ppOps) (ppV A2 n c2 F va) T 2 (.tmp 3) = .slice A2 n c2 := (show _ = T.getD 3 undef by kernel_rfl).trans hT3
    exact dstep_value (by simp [dwant, hg, ppV]) (show (execOp _ _).run Tryd.prog w' = .ok (.value (.slice A2 n c2)) w' by simp [execOp, hop, go_sem, r3]) hS
  · obtain ⟨o', ho', hg, hop⟩ := pp_o3
    obtain rfl := Option.some.inj (ho'.symm.trans ho)
    have r35 : dval ppOps (dahead ppOps) (ppV A2 n c2 F va) T 3 (.tmp 35) = .slice A2 n c2 := by kernel_rfl
    exact dstep_value (by simp [dwant, hg, ppV]) (show (execOp _ _).run Tryd.prog w' = .ok (.value (.string F)) w' by simp [execOp, hop, go_sem, r35, Result.andThen, CV _ hS]) hS
  · obtain ⟨o', ho', hg, hop⟩ := pp_o4
    obtain rfl := Option.some.inj (ho'.symm.trans ho)
    have r1 : dval ppOps (dahead ppOps) (ppV A2 n c2 F va) T 4 (.tmp 1) = p1 := (show _ = T.getD 1 undef by kernel_rfl).trans hT1
    exact dstep_value (by simp [dwant, hg, ppV]) (dexec_load hop (by rw [r1]; exact L1 _ hS)) hS
  · obtain ⟨o', ho', hg, hop⟩ := pp_o5
    obtain rfl := Option.some.inj (ho'.symm.trans ho)
    have r37 : dval ppOps (dahead ppOps) (ppV A2 n c2 F va) T 5 (.tmp 37) = va := by kernel_rfl
    exact dstep_enter (by simp [dwant, hg, ppV]) (dexec_call hop rfl (by simp [go_sem, r37])) (RF _ hS)
  · obtain ⟨o', ho', hg, hop⟩ := pp_o6
    obtain rfl := Option.some.inj (ho'.symm.trans ho)
    have r36 : dval ppOps (dahead ppOps) (ppV A2 n c2 F va) T 6 (.tmp 36) = .string F := by kernel_rfl
    have r38 : dval ppOps (dahead ppOps) (ppV A2 n c2 F va) T 6 (.tmp 38) = .string F := by kernel_rfl
    exact dstep_value (by simp [dwant, hg, ppV]) (show (execOp _ _).run Tryd.prog w' = .ok (.value (.bool true)) w' by simp [execOp, hop, go_sem, r36, r38]) hS
  · obtain ⟨o', ho', hg, hop⟩ := pp_o7
    obtain rfl := Option.some.inj (ho'.symm.trans ho)
    have r34 : dval ppOps (dahead ppOps) (ppV A2 n c2 F va) T 7 (.tmp 34) = .bool true := by kernel_rfl
    have r39 : dval ppOps (dahead ppOps) (ppV A2 n c2 F va) T 7 (.tmp 39) = .bool true := by kernel_rfl
    exact dstep_value (by simp [dwant, hg]) (show (execOp _ _).run Tryd.prog w' = .ok (.value (.bool true)) w' by simp [execOp, hop, go_sem, r34, r39]) hS
  · obtain ⟨o', ho', hg, hop⟩ := pp_o8
    obtain rfl := Option.some.inj (ho'.symm.trans ho)
    have r40 : dval ppOps (dahead ppOps) (ppV A2 n c2 F va) T 8 (.tmp 40) = .bool true := by kernel_rfl
    exact dstep_value (by simp [dwant, hg]) (show (execOp _ _).run Tryd.prog w' = .ok (.value (.bool true)) w' by simp [execOp, hop, go_sem, r40]) hS
  · obtain ⟨o', ho', hg, hop⟩ := pp_o9
    obtain rfl := Option.some.inj (ho'.symm.trans ho)
    have r4 : dval ppOps (dahead ppOps) (ppV A2 n c2 F va) T 9 (.tmp 4) = .bool true := (show _ = T.getD 4 undef by kernel_rfl).trans hT4
    exact dstep_value (by simp [dwant, hg, ppV]) (show (execOp _ _).run Tryd.prog w' = .ok (.value (.bool true)) w' by simp [execOp, hop, go_sem, r4]) hS
  · obtain ⟨o', ho', hg, hop⟩ := pp_o10
    obtain rfl := Option.some.inj (ho'.symm.trans ho)
    have r41 : dval ppOps (dahead ppOps) (ppV A2 n c2 F va) T 10 (.tmp 41) = .bool true := by kernel_rfl
    have r42 : dval ppOps (dahead ppOps) (ppV A2 n c2 F va) T 10 (.tmp 42) = .bool true := by kernel_rfl
    exact dstep_value (by simp [dwant, hg]) (show (execOp _ _).run Tryd.prog w' = .ok (.value (.bool true)) w' by simp [execOp, hop, go_sem, r41, r42]) hS
  · obtain ⟨o', ho', hg, hop⟩ := pp_o11
    obtain rfl := Option.some.inj (ho'.symm.trans ho)
    have r43 : dval ppOps (dahead ppOps) (ppV A2 n c2 F va) T 11 (.tmp 43) = .bool true := by kernel_rfl
    exact dstep_value (by simp [dwant, hg]) (show (execOp _ _).run Tryd.prog w' = .ok (.value (.bool true)) w' by simp [execOp, hop, go_sem, r43]) hS
  · obtain ⟨o', ho', hg, hop⟩ := pp_o12
    obtain rfl := Option.some.inj (ho'.symm.trans ho)
    have r1 : dval ppOps (dahead ppOps) (ppV A2 n c2 F va) T 12 (.tmp 1) = p1 := (show _ = T.getD 1 undef by kernel_rfl).trans hT1
    exact dstep_value (by simp [dwant, hg, ppV]) (dexec_load hop (by rw [r1]; exact L1 _ hS)) hS
  · obtain ⟨o', ho', hg, hop⟩ := pp_o13
    obtain rfl := Option.some.inj (ho'.symm.trans ho)
    have r45 : dval ppOps (dahead ppOps) (ppV A2 n c2 F va) T 13 (.tmp 45) = va := by kernel_rfl
    exact dstep_enter (by simp [dwant, hg, ppV]) (dexec_call hop rfl (by simp [go_sem, r45])) (PV _ hS)
  · obtain ⟨o', ho', hg, hop⟩ := pp_o14
    obtain rfl := Option.some.inj (ho'.symm.trans ho)
    have r44 : dval ppOps (dahead ppOps) (ppV A2 n c2 F va) T 14 (.tmp 44) = .bool true := by kernel_rfl
    have r46 : dval ppOps (dahead ppOps) (ppV A2 n c2 F va) T 14 (.tmp 46) = .bool true := by kernel_rfl
    exact dstep_value (by simp [dwant, hg]) (show (execOp _ _).run Tryd.prog w' = .ok (.value (.bool true)) w' by simp [execOp, hop, go_sem, r44, r46]) hS
  · obtain ⟨o', ho', hg, hop⟩ := pp_o15
    obtain rfl := Option.some.inj (ho'.symm.trans ho)
    have r47 : dval ppOps (dahead ppOps) (ppV A2 n c2 F va) T 15 (.tmp 47) = .bool true := by kernel_rfl
    exact dstep_value (by simp [dwant, hg]) (show (execOp _ _).run Tryd.prog w' = .ok (.value (.bool true)) w' by simp [execOp, hop, go_sem, r47]) hS
  · omega
theorem pp_put (A2 : Option Addr) (n c2 : Nat) (F : ByteArray) (va : Value) (T : Array Value) : dputN ppOps (ppV A2 n c2 F va) T 16 = ((((((((((((((((T.setIfInBounds 33 (.bool true)).setIfInBounds 34 (.bool true)).setIfInBounds 35 (.slice A2 n c2)).setIfInBounds 36 (.string F)).setIfInBounds 37 (va)).setIfInBounds 38 (.string F)).setIfInBounds 39 (.bool true)).setIfInBounds 40 (.bool true)).setIfInBounds 41 (.bool true)).setIfInBounds 42 (.bool true)).setIfInBounds 43 (.bool true)).setIfInBounds 44 (.bool true)).setIfInBounds 45 (va)).setIfInBounds 46 (.bool true)).setIfInBounds 47 (.bool true)).setIfInBounds 2 (.bool true)) := by kernel_rfl

theorem few_one (x : RX) : fewRs [x] = fewR x.r := by simp [fewRs]

set_option maxRecDepth 100000 in
set_option maxHeartbeats 4000000 in
theorem respPrints_any (r : RI) (A : Option Addr) (k : Nat) (hr : RIok r) (w : World) (henv : Env w) (hA : ByAt w.heap.size w A k r.body) :
    Calls Tryd.prog 3 #[rsV r A k] w fun e w' => e = .returned (.bool true) ∧ Below w.heap.size w w' := by
  have AL := Lib.hid (fun W (hW : Below w.heap.size w W) => alive9_any W (henv.below hW))
  have BX := RsBox.new w r A k
  have B0 := below_al w (.cells #[.int .i64 r.kind, .int .u32 (r.n : Int), .string ⟨r.tag.toArray⟩, .int .i64 r.status, .string ⟨r.text.toArray⟩, .int .i64 r.items, .int .u8 (r.flags : Int), .int .u32 (r.uid : Int), .int .u32 (r.size : Int), .slice A r.body.length k] 26)
  have HA1 := (hA.below B0).here
  have B1 := below_next B0 (below_al _ (.cells (encRx ⟨r, A, k⟩).toArray 26))
  have FW := rfew9_any [⟨r, A, k⟩] (some ⟨w.heap.size + 1, 0, none⟩) 1 1 rfl (by unfold maxLen; omega) ((w.alloc (.cells #[.int .i64 r.kind, .int .u32 (r.n : Int), .string ⟨r.tag.toArray⟩, .int .i64 r.status, .string ⟨r.text.toArray⟩, .int .i64 r.items, .int .u8 (r.flags : Int), .int .u32 (r.uid : Int), .int .u32 (r.size : Int), .slice A r.body.length k] 26)).alloc (.cells (encRx ⟨r, A, k⟩).toArray 26)) (by have := rsAt_one (w := w.alloc (.cells #[.int .i64 r.kind, .int .u32 (r.n : Int), .string ⟨r.tag.toArray⟩, .int .i64 r.status, .string ⟨r.text.toArray⟩, .int .i64 r.items, .int .u8 (r.flags : Int), .int .u32 (r.uid : Int), .int .u32 (r.size : Int), .slice A r.body.length k] 26)) HA1; rwa [World.size_alloc] at this)
  rw [few_one] at FW
  have BX1 := Lib.hid (BX.below (below_al _ (.cells (encRx ⟨r, A, k⟩).toArray 26)))
  have HB1 := Lib.hid B1
  unfold encRx at *
  have HFW := Lib.hid FW
  cases hf : fewR r with
  | false =>
    have FW := Lib.hid (hf ▸ HFW.out)
    clear HFW hf BX B0 B1 HA1 hA henv hr BX1
    unfold rsV
    go_enter Tryd.func3, Tryd.ntmps3
    go_wp2_with fail
    refine FW.out.mono ?_
    rintro e w1 ⟨rfl, rfl⟩
    go_wp2_with fail
    refine (AL.out _ HB1.out).mono ?_
    rintro e w2 ⟨rfl, hb⟩
    have HB2 := Lib.hid (below_next HB1.out hb)
    clear hb
    go_wp2_with fail
    go_ret
    exact ⟨rfl, HB2.out⟩
  | true =>
    have FW := Lib.hid (hf ▸ HFW.out)
    have hs := few_sm hf
    have PN := Lib.hid (fun W (hW : Below w.heap.size w W) => print9_any r hr hs A k W (henv.below hW) (hA.below hW).here)
    have RV := Lib.hid (fun W (hW : Below w.heap.size w W) => rvalid9_any r hr hs A k W (hA.below hW).here)
    have PV := Lib.hid (fun W (hW : Below w.heap.size w W) => valid9_any r hr hs A k W (hA.below hW).here)
    have RF := Lib.hid (fun (hok : rsOk r = true) W (hW : Below w.heap.size w W) => rform9_any r hr hs hok A k W (hA.below hW).here)
    have HVA : Hid (∀ W, RsBox w.heap.size r A k W → (Instr.loadAt 26 (.pointer (some ⟨w.heap.size, 0, none⟩))).run Tryd.prog W = .ok (rsV r A k) W) := Lib.hid (fun W h => h.load)
    clear HFW hf BX B0 B1 HA1 hA henv hr hs
    have HU : Hid (rsV r A k = .agg #[.int .i64 r.kind, .int .u32 (r.n : Int), .string ⟨r.tag.toArray⟩, .int .i64 r.status, .string ⟨r.text.toArray⟩, .int .i64 r.items, .int .u8 (r.flags : Int), .int .u32 (r.uid : Int), .int .u32 (r.size : Int), .slice A r.body.length k]) := Lib.hid rfl
    rw [HU.out] at PN RV PV HVA
    rw [HU.out] at RF ⊢
    clear HU
    go_enter Tryd.func3, Tryd.ntmps3
    go_wp2_with fail
    refine FW.out.mono ?_
    rintro e w1 ⟨rfl, rfl⟩
    clear FW
    go_upto_region 3 with (fail)
    generalize hW1 : (w.alloc (.cells #[.int .i64 r.kind, .int .u32 (r.n : Int), .string ⟨r.tag.toArray⟩, .int .i64 r.status, .string ⟨r.text.toArray⟩, .int .i64 r.items, .int .u8 (r.flags : Int), .int .u32 (r.uid : Int), .int .u32 (r.size : Int), .slice A r.body.length k] 26)).alloc (.cells #[.int .i64 r.kind, .int .u32 (r.n : Int), .string ⟨r.tag.toArray⟩, .int .i64 r.status, .string ⟨r.text.toArray⟩, .int .i64 r.items, .int .u8 (r.flags : Int), .int .u32 (r.uid : Int), .int .u32 (r.size : Int), .slice A r.body.length k] 26) = w1 at *
    clear hW1
    obtain ⟨x0, x1, x2, x3, x4, x5, x6, x7, x8, x9⟩ := BX1.out.cells
    go_wp2_with fail
    refine (PN.out _ HB1.out).mono ?_
    rintro e w2 (⟨hok, A2, c2, rfl, hy, hb⟩ | ⟨hok, rfl, hb⟩)
    · have HOK := Lib.hid hok
      have HB2 := Lib.hid (below_next HB1.out hb)
      have BX2 := Lib.hid (BX1.out.below hb)
      have HY := Lib.hid hy
      obtain ⟨n, hn⟩ : ∃ n, (rsForm r).length = n := ⟨_, rfl⟩
      have HN := Lib.hid hn
      rw [hn]
      clear hok hb hy hn x0 x1 x2 x3 x4 x5 x6 x7 x8 x9 BX1 HB1 PN
      obtain ⟨x0, x1, x2, x3, x4, x5, x6, x7, x8, x9⟩ := BX2.out.cells
      go_wp2_with fail
      refine (RV.out _ HB2.out).mono ?_
      rw [HOK.out]
      rintro e w3 ⟨rfl, hb⟩
      have HB3 := Lib.hid (below_next HB2.out hb)
      have BX3 := Lib.hid (BX2.out.below hb)
      have HY3 := Lib.hid ((HY.out.below hb).here)
      clear hb x0 x1 x2 x3 x4 x5 x6 x7 x8 x9 BX2 HB2 HY RV
      go_upto_region 6 with (fail)
      rename_i K hK
      refine drawn_region (ops := ppOps) (anc := dahead ppOps) (V := ppV A2 n c2 ⟨(rsForm r).toArray⟩ (.agg #[.int .i64 r.kind, .int .u32 (r.n : Int), .string ⟨r.tag.toArray⟩, .int .i64 r.status, .string ⟨r.text.toArray⟩, .int .i64 r.items, .int .u8 (r.flags : Int), .int .u32 (r.uid : Int), .int .u32 (r.size : Int), .slice A r.body.length k])) (S := fun _ W => Below w3.heap.size w3 W) (R := fun _ _ => False) (by kernel_rfl) pp_fit (below_drew 1)
        (pp_step A2 n c2 ⟨(rsForm r).toArray⟩ (.agg #[.int .i64 r.kind, .int .u32 (r.n : Int), .string ⟨r.tag.toArray⟩, .int .i64 r.status, .string ⟨r.text.toArray⟩, .int .i64 r.items, .int .u8 (r.flags : Int), .int .u32 (r.uid : Int), .int .u32 (r.size : Int), .slice A r.body.length k]) _ _ rfl rfl rfl (fun W => Below w3.heap.size w3 W)
          (fun W h => (AL.out W (below_next HB3.out h)).mono fun e w' q => ⟨q.1, below_next h q.2⟩)
          (fun W h => convS _ W A2 c2 n _ (HY3.out.below h) HN.out)
          (fun W h => HVA.out W (BX3.out.below h))
          (fun W h => (RF.out HOK.out W (below_next HB3.out h)).mono fun e w' q => ⟨q.1, below_next h q.2⟩)
          (fun W h => (PV.out W (below_next HB3.out h)).mono fun e w' q => ⟨by rw [q.1, HOK.out], below_next h q.2⟩)) (fun c a w' _ _ _ h => h.elim) (fun W h => ?_)
      rw [dfin_put pp_fit, pp_size, pp_put]
      have HB9 := Lib.hid (below_next HB3.out h)
      clear h AL RF PV HVA HY3 BX3
      refine hK _ _ ?_
      simp only [List.setIfInBounds_toArray, List.set_cons_succ, List.set_cons_zero]
      go_wp2_with fail
      go_ret
      exact ⟨rfl, HB9.out⟩
    · have HOK := Lib.hid hok
      have HB2 := Lib.hid (below_next HB1.out hb)
      have BX2 := Lib.hid (BX1.out.below hb)
      clear hok hb x0 x1 x2 x3 x4 x5 x6 x7 x8 x9 BX1 HB1 PN
      obtain ⟨x0, x1, x2, x3, x4, x5, x6, x7, x8, x9⟩ := BX2.out.cells
      go_wp2_with fail
      refine (RV.out _ HB2.out).mono ?_
      rw [HOK.out]
      rintro e w3 ⟨rfl, hb⟩
      have HB3 := Lib.hid (below_next HB2.out hb)
      have BX3 := Lib.hid (BX2.out.below hb)
      clear hb x0 x1 x2 x3 x4 x5 x6 x7 x8 x9 BX2 HB2 RV
      go_wp2_with fail
      refine (AL.out _ HB3.out).mono ?_
      rintro e w4 ⟨rfl, hb⟩
      have HB4 := Lib.hid (below_next HB3.out hb)
      have BX4 := Lib.hid (BX3.out.below hb)
      clear hb BX3 HB3
      obtain ⟨x0, x1, x2, x3, x4, x5, x6, x7, x8, x9⟩ := BX4.out.cells
      go_wp2_with fail
      refine (PV.out _ HB4.out).mono ?_
      rw [HOK.out]
      rintro e w5 ⟨rfl, hb⟩
      have HB5 := Lib.hid (below_next HB4.out hb)
      clear hb x0 x1 x2 x3 x4 x5 x6 x7 x8 x9 BX4 HB4
      go_wp2_with fail
      go_ret
      exact ⟨rfl, HB5.out⟩
end Go.Proofs.YtcpbgceplgcblaaDoor
