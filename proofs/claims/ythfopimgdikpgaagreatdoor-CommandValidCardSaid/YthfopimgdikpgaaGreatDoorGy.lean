/- The reference of layer 7: Few. -/
import Derived.Test.YthfopimgdikpgaaGreatDoorLiftC
import Derived.Test.YthfopimgdikpgaaGreatDoorSame7R
import Derived.Test.YthfopimgdikpgaaGreatDoorCmdAlive
import Derived.Test.YthfopimgdikpgaaGreatDoorRef07P
import Derived.Deep.Cut
import Derived.Test.YthfopimgdikpgaaGreatDoorRules
import Derived.Test.YthfopimgdikpgaaGreatDoorTkTag
import Derived.Deep.CutBlock
import Derived.Deep.CutRange
import Derived.Deep.DeepCutAuto
import Derived.RegionTactic
import Derived.BigRegion
import Derived.Test.YthfopimgdikpgaaGreatDoorGz
namespace Go.Proofs.YthfopimgdikpgaaGreatDoor
open Go.RowKit

def fewC (a : CI) : Bool := decide (a.tag.length ≤ 100) && (decide (a.mbox.length ≤ 300) && (decide (a.set.length ≤ 60) && decide (a.data.length ≤ 500)))
set_option maxRecDepth 100000 in
set_option maxHeartbeats 1000000 in
theorem few_any (a : CI) (A1 A2 : Option Addr) (k1 k2 : Nat) (w : World) :
    Calls Tryz.prog 13 #[ciV a A1 A2 k1 k2] w fun e w' => e = .returned (.bool (fewC a)) ∧ Below w.heap.size w w' := by
  have HB := Lib.hid (below_al w (.cells #[.string ⟨a.tag.toArray⟩, .int .i64 a.kind, .string ⟨a.mbox.toArray⟩, .slice A1 a.set.length k1, .int .i64 a.items, .int .i64 a.mode, .bool a.silent, .int .u8 a.flags, .slice A2 a.data.length k2] 27))
  have sz0 : (ByteArray.mk a.tag.toArray).size = a.tag.length := by show a.tag.toArray.size = _; simp
  have sz2 : (ByteArray.mk a.mbox.toArray).size = a.mbox.length := by show a.mbox.toArray.size = _; simp
  have g0 : decide ((a.tag.length : Int) ≤ 100) = decide (a.tag.length ≤ 100) := by rw [decide_eq_decide]; omega
  have g2 : decide ((a.mbox.length : Int) ≤ 300) = decide (a.mbox.length ≤ 300) := by rw [decide_eq_decide]; omega
  have g3 : decide ((a.set.length : Int) ≤ 60) = decide (a.set.length ≤ 60) := by rw [decide_eq_decide]; omega
  have g8 : decide ((a.data.length : Int) ≤ 500) = decide (a.data.length ≤ 500) := by rw [decide_eq_decide]; omega
  unfold ciV fewC
  generalize h0 : decide (a.tag.length ≤ 100) = d0 at *
  generalize h2 : decide (a.mbox.length ≤ 300) = d2 at *
  generalize h3 : decide (a.set.length ≤ 60) = d3 at *
  generalize h8 : decide (a.data.length ≤ 500) = d8 at *
  cases d0
  · go_enter Tryz.func13, Tryz.ntmps13
    go_wp2_with fail
    go_ret
    exact ⟨rfl, HB.out⟩
  cases d2
  · go_enter Tryz.func13, Tryz.ntmps13
    go_wp2_with fail
    go_ret
    exact ⟨rfl, HB.out⟩
  cases d3
  · go_enter Tryz.func13, Tryz.ntmps13
    go_wp2_with fail
    go_ret
    exact ⟨rfl, HB.out⟩
  cases d8
  all_goals
    go_enter Tryz.func13, Tryz.ntmps13
    go_wp2_with fail
    go_ret
    exact ⟨rfl, HB.out⟩
end Go.Proofs.YthfopimgdikpgaaGreatDoor

namespace Go.Proofs.YthfopimgdikpgaaGreatDoor
open Go.RowKit

theorem sameC_refl7 (a : CI) : sameC a a = true := by simp [sameC]
/-- What stands in the two boxes. -/
def Box2 (w W : World) (a b : CI) (A1 A2 : Option Addr) (k1 k2 : Nat) (A3 A4 : Option Addr) (k3 k4 : Nat) : Prop :=
  W.heap[w.heap.size]? = some (.cells #[.string ⟨a.tag.toArray⟩, .int .i64 a.kind, .string ⟨a.mbox.toArray⟩, .slice A1 a.set.length k1, .int .i64 a.items, .int .i64 a.mode, .bool a.silent, .int .u8 a.flags, .slice A2 a.data.length k2] 27 (0, 0)) ∧
  W.heap[w.heap.size + 1]? = some (.cells #[.string ⟨b.tag.toArray⟩, .int .i64 b.kind, .string ⟨b.mbox.toArray⟩, .slice A3 b.set.length k3, .int .i64 b.items, .int .i64 b.mode, .bool b.silent, .int .u8 b.flags, .slice A4 b.data.length k4] 27 (0, 0)) ∧
  Below w.heap.size w W ∧ w.heap.size + 2 ≤ W.heap.size
theorem Box2.below {w W W' : World} {a b : CI} {A1 A2 : Option Addr} {k1 k2 : Nat} {A3 A4 : Option Addr} {k3 k4 : Nat} (h : Box2 w W a b A1 A2 k1 k2 A3 A4 k3 k4) (hb : Below W.heap.size W W') : Box2 w W' a b A1 A2 k1 k2 A3 A4 k3 k4 :=
  ⟨(hb.block _ (by have := h.2.2.2; omega)).trans h.1, (hb.block _ (by have := h.2.2.2; omega)).trans h.2.1, h.2.2.1.trans (hb.mono h.2.2.1.size), Nat.le_trans h.2.2.2 hb.size⟩
theorem Box2.start (w : World) (a b : CI) (A1 A2 : Option Addr) (k1 k2 : Nat) (A3 A4 : Option Addr) (k3 k4 : Nat) : Box2 w ((w.alloc (.cells #[.string ⟨a.tag.toArray⟩, .int .i64 a.kind, .string ⟨a.mbox.toArray⟩, .slice A1 a.set.length k1, .int .i64 a.items, .int .i64 a.mode, .bool a.silent, .int .u8 a.flags, .slice A2 a.data.length k2] 27)).alloc (.cells #[.string ⟨b.tag.toArray⟩, .int .i64 b.kind, .string ⟨b.mbox.toArray⟩, .slice A3 b.set.length k3, .int .i64 b.items, .int .i64 b.mode, .bool b.silent, .int .u8 b.flags, .slice A4 b.data.length k4] 27)) a b A1 A2 k1 k2 A3 A4 k3 k4 := by
  have hx := heap_alloc_new (w.alloc (.cells #[.string ⟨a.tag.toArray⟩, .int .i64 a.kind, .string ⟨a.mbox.toArray⟩, .slice A1 a.set.length k1, .int .i64 a.items, .int .i64 a.mode, .bool a.silent, .int .u8 a.flags, .slice A2 a.data.length k2] 27)) (.cells #[.string ⟨b.tag.toArray⟩, .int .i64 b.kind, .string ⟨b.mbox.toArray⟩, .slice A3 b.set.length k3, .int .i64 b.items, .int .i64 b.mode, .bool b.silent, .int .u8 b.flags, .slice A4 b.data.length k4] 27)
  rw [World.size_alloc] at hx
  exact ⟨((below_al (w.alloc _) _).block w.heap.size (by simp)).trans (heap_alloc_new w _), hx, below_next (below_al w _) (below_al _ _), by rw [World.size_alloc, World.size_alloc]; exact Nat.le_refl _⟩
theorem box2_cells {w w4 W : World} {a b : CI} {A1 A2 : Option Addr} {k1 k2 : Nat} {A3 A4 : Option Addr} {k3 k4 : Nat} (h : Box2 w w4 a b A1 A2 k1 k2 A3 A4 k3 k4) (hb : Below w4.heap.size w4 W) : W.cell? ⟨w.heap.size, 0, none⟩ = some (.string ⟨a.tag.toArray⟩) ∧ W.cell? ⟨w.heap.size, 1, none⟩ = some (.int .i64 a.kind) ∧ W.cell? ⟨w.heap.size, 2, none⟩ = some (.string ⟨a.mbox.toArray⟩) ∧ W.cell? ⟨w.heap.size, 3, none⟩ = some (.slice A1 a.set.length k1) ∧ W.cell? ⟨w.heap.size, 4, none⟩ = some (.int .i64 a.items) ∧ W.cell? ⟨w.heap.size, 5, none⟩ = some (.int .i64 a.mode) ∧ W.cell? ⟨w.heap.size, 6, none⟩ = some (.bool a.silent) ∧ W.cell? ⟨w.heap.size, 7, none⟩ = some (.int .u8 a.flags) ∧ W.cell? ⟨w.heap.size, 8, none⟩ = some (.slice A2 a.data.length k2) ∧ W.cell? ⟨w.heap.size + 1, 0, none⟩ = some (.string ⟨b.tag.toArray⟩) ∧ W.cell? ⟨w.heap.size + 1, 1, none⟩ = some (.int .i64 b.kind) ∧ W.cell? ⟨w.heap.size + 1, 2, none⟩ = some (.string ⟨b.mbox.toArray⟩) ∧ W.cell? ⟨w.heap.size + 1, 3, none⟩ = some (.slice A3 b.set.length k3) ∧ W.cell? ⟨w.heap.size + 1, 4, none⟩ = some (.int .i64 b.items) ∧ W.cell? ⟨w.heap.size + 1, 5, none⟩ = some (.int .i64 b.mode) ∧ W.cell? ⟨w.heap.size + 1, 6, none⟩ = some (.bool b.silent) ∧ W.cell? ⟨w.heap.size + 1, 7, none⟩ = some (.int .u8 b.flags) ∧ W.cell? ⟨w.heap.size + 1, 8, none⟩ = some (.slice A4 b.data.length k4) ∧ Below w4.heap.size w4 W := by
  have h2 := h.below hb
  obtain ⟨x0, x1, x2, x3, x4, x5, x6, x7, x8⟩ := cells9 h2.1
  obtain ⟨y0, y1, y2, y3, y4, y5, y6, y7, y8⟩ := cells9 h2.2.1
  exact ⟨x0, x1, x2, x3, x4, x5, x6, x7, x8, y0, y1, y2, y3, y4, y5, y6, y7, y8, hb⟩
theorem fewC_bd {a : CI} (h : fewC a = true) : a.set.length ≤ 60 ∧ a.data.length ≤ 500 := by
  unfold fewC at h
  simp at h
  omega

set_option maxRecDepth 100000 in
set_option maxHeartbeats 1000000 in
theorem commandSame_few (a : CI) (A1 A2 : Option Addr) (k1 k2 : Nat) (b : CI) (A3 A4 : Option Addr) (k3 k4 : Nat) (w : World) (henv : Env w) (h : (fewC a && fewC b) = false) :
    Calls Tryz.prog 5 #[ciV a A1 A2 k1 k2, ciV b A3 A4 k3 k4] w fun e w' => e = .returned (.bool true) ∧ Below w.heap.size w w' := by
  have AL := Lib.hid (fun W (hW : Below w.heap.size w W) => alive7_any W (henv.below hW))
  have FA := Lib.hid (fun W => few_any a A1 A2 k1 k2 W)
  have FB := Lib.hid (fun W => few_any b A3 A4 k3 k4 W)
  have HW := Lib.hid (Box2.start w a b A1 A2 k1 k2 A3 A4 k3 k4)
  have HH := Lib.hid h
  clear henv h
  generalize fewC a = fa at *
  generalize fewC b = fb at *
  unfold ciV at *
  go_enter Tryz.func5, Tryz.ntmps5
  go_upto_region 1 with (fail)
  generalize (w.alloc (.cells #[.string ⟨a.tag.toArray⟩, .int .i64 a.kind, .string ⟨a.mbox.toArray⟩, .slice A1 a.set.length k1, .int .i64 a.items, .int .i64 a.mode, .bool a.silent, .int .u8 a.flags, .slice A2 a.data.length k2] 27)).alloc (.cells #[.string ⟨b.tag.toArray⟩, .int .i64 b.kind, .string ⟨b.mbox.toArray⟩, .slice A3 b.set.length k3, .int .i64 b.items, .int .i64 b.mode, .bool b.silent, .int .u8 b.flags, .slice A4 b.data.length k4] 27) = W2 at *
  obtain ⟨x0, x1, x2, x3, x4, x5, x6, x7, x8⟩ := cells9 HW.out.1
  go_wp2_with fail
  refine (FA.out _).mono ?_
  rintro e w3 ⟨rfl, hb3⟩
  have HW3 := Lib.hid (HW.out.below hb3)
  clear x0 x1 x2 x3 x4 x5 x6 x7 x8 HW hb3 FA
  cases fa with
  | false =>
    clear FB
    go_wp2_with fail
    refine (AL.out _ HW3.out.2.2.1).mono ?_
    rintro e w4 ⟨rfl, hb4⟩
    go_wp2_with fail
    go_ret
    exact ⟨rfl, (HW3.out.below hb4).2.2.1⟩
  | true =>
    obtain ⟨y0, y1, y2, y3, y4, y5, y6, y7, y8⟩ := cells9 HW3.out.2.1
    go_wp2_with fail
    refine (FB.out _).mono ?_
    rintro e w4 ⟨rfl, hb4⟩
    have HW4 := Lib.hid (HW3.out.below hb4)
    clear y0 y1 y2 y3 y4 y5 y6 y7 y8 HW3 hb4 FB
    cases fb with
    | false =>
      go_wp2_with fail
      refine (AL.out _ HW4.out.2.2.1).mono ?_
      rintro e w5 ⟨rfl, hb5⟩
      go_wp2_with fail
      go_ret
      exact ⟨rfl, (HW4.out.below hb5).2.2.1⟩
    | true =>
      exact absurd HH.out (by simp)
end Go.Proofs.YthfopimgdikpgaaGreatDoor

namespace Go.Proofs.YthfopimgdikpgaaGreatDoor
open Go.RowKit

section
/-- The operation that writes a slot. -/
def dwriter (ops : Array Oper) (t : Nat) : Option Nat := (List.range ops.size).find? fun k => (ops[k]?).any fun o => o.dst == some t
/-- The operations that come ahead of each, by the edges that bind. -/
def dahead (ops : Array Oper) : List (List Nat) :=
  (List.range ops.size).foldl (fun acc i =>
    let d := ((ops[i]?).map fun o => (o.after.toList.filter fun e => Region.binds .any e).map (·.on)).getD []
    acc ++ [(d ++ d.flatMap fun k => acc.getD k []).eraseDups]) []
def dal (anc : List (List Nat)) (i : Nat) : List Nat := anc.getD i []
/-- What an operand holds when operation i is carried out. -/
def dval (ops : Array Oper) (anc : List (List Nat)) (V : Nat → Value) (T : Array Value) (i : Nat) : Operand → Value
  | .tmp t => match dwriter ops t with
    | some k => if (dal anc i).contains k then V k else T.getD t undef
    | none => T.getD t undef
  | .const v => v
  | .global g => .pointer (some ⟨g, 0, none⟩)
  | .func f => .func (.func f) #[] #[]
/-- What is asked of the operations' order. -/
def dfit (ops : Array Oper) (anc : List (List Nat)) (n i : Nat) (o : Oper) : Bool :=
  ((dal anc i).all fun k => o.after.toList.any fun e => Region.binds .any e && (e.on == k || (dal anc e.on).contains k)) &&
  ((o.after.toList.all fun e => decide (e.on < i)) &&
  ((match o.op with | .select _ _ => false | _ => true) &&
  ((match o.dst with | some d => decide (d < n) && (dwriter ops d == some i) | none => true) &&
  ((match o.guard with | some (g, _) => (dal anc i).contains g && ((ops[g]?).any fun x => x.dst.isSome) | none => true) &&
  (o.op.operands.toList.all fun x => match x with
      | .tmp t => match dwriter ops t with
        | some k => (dal anc i).contains k || (k == i || (dal anc k).contains i)
        | none => true
      | _ => true)))))
def dfits (ops : Array Oper) (anc : List (List Nat)) (n : Nat) : Bool :=
  (List.range ops.size).all fun i => (ops[i]?).all fun o => dfit ops anc n i o
/-- Is operation o carried out, by what its guard yields? -/
def dwant (V : Nat → Value) (o : Oper) : Bool :=
  match o.guard with
  | none => true
  | some (g, b) => match V g with
    | .bool b' => b' == b
    | _ => false
def dset (m : Nat → Bool) (i : Nat) : Nat → Bool := fun j => if j = i then true else m j
/-- What carrying an operation out must lead to. -/
def DUp (P : Program) (v : Value) (S : World → Prop) (R : List PanicEntry → World → Prop) : Result Next → Prop
  | .ok (.value u) w => u = v ∧ S w
  | .ok .skip w => v = undef ∧ S w
  | .ok (.enter f args) w => Calls P f args w fun e w' => (e = .returned v ∧ S w') ∨ (∃ c, e = .panicked c ∧ R c w')
  | _ => False
def DStep (P : Program) (o : Oper) (ρ : Operand → Value) (V : Nat → Value) (i : Nat) (S : World → Prop) (R : List PanicEntry → World → Prop) (w : World) : Prop :=
  if dwant V o = true then DUp P (V i) S R ((execOp ρ o).run P w) else V i = undef ∧ S w
/-- The region with a number. -/
def dfind (n : Nat) : Code → Option (Array Oper)
  | .region id ops _ => if id == n then some ops else none
  | .seq a b => match dfind n a with | some o => some o | none => dfind n b
  | .cond _ a b => match dfind n a with | some o => some o | none => dfind n b
  | .block _ b => dfind n b
  | .loop b => dfind n b
  | .rangeFunc _ _ a b => match dfind n a with | some o => some o | none => dfind n b
  | _ => none
/-- The slots behind the region. -/
def dslot (ops : Array Oper) (V : Nat → Value) (T : Array Value) (j : Nat) : Value :=
  match dwriter ops j with
  | some k => V k
  | none => T.getD j undef
def dfin (ops : Array Oper) (V : Nat → Value) (T : Array Value) : Array Value := ((List.range T.size).map (dslot ops V T)).toArray
end

section
variable {P : Program} {ops : Array Oper} {Q : Exit → Act → World → Prop} {anc : List (List Nat)} {V : Nat → Value} {T : Array Value} {D : List Deferred} {S : (Nat → Bool) → World → Prop} {R : List PanicEntry → World → Prop}

@[simp] theorem dval_func {i : Nat} {f : FuncId} : dval ops anc V T i (.func f) = .func (.func f) #[] #[] := rfl
@[simp] theorem dval_const {i : Nat} {v : Value} : dval ops anc V T i (.const v) = v := rfl
@[simp] theorem dval_global {i : Nat} {g : Nat} : dval ops anc V T i (.global g) = .pointer (some ⟨g, 0, none⟩) := rfl
theorem dexec_load {o : Oper} {ρ : Operand → Value} {t : TypeId} {x : Operand} {v : Value} {w : World} (h : o.op = .load t x) (hr : (Instr.loadAt t (ρ x)).run P w = .ok v w) : (execOp ρ o).run P w = .ok (.value v) w := by
  unfold execOp
  rw [h]
  simp [hr, Result.andThen]
theorem dexec_store {o : Oper} {ρ : Operand → Value} {t : TypeId} {x y : Operand} {w w' : World} (h : o.op = .store t x y) (hr : (Instr.storeAt t (ρ x) (ρ y)).run P w = .ok () w') : (execOp ρ o).run P w = .ok .skip w' := by
  unfold execOp
  rw [h]
  simp [hr, Result.andThen]
theorem dexec_field {o : Oper} {ρ : Operand → Value} {t : TypeId} {x : Operand} {k : Nat} {v : Value} {w : World} (h : o.op = .fieldAddr t x k) (hr : (Instr.fieldAt t (ρ x) k).run P w = .ok v w) : (execOp ρ o).run P w = .ok (.value v) w := by
  unfold execOp
  rw [h]
  simp [hr, Result.andThen]
theorem dexec_call {o : Oper} {ρ : Operand → Value} {f : FuncId} {xs : Array Operand} {ts : Array TypeId} {args : Array Value} {w : World} (h : o.op = .call { callee := .value (.func f), args := xs, argTypes := ts }) (hf : ρ (.func f) = .func (.func f) #[] #[]) (hr : (callFunc f (xs.map ρ)).run P w = .ok (.enter f args) w) : (execOp ρ o).run P w = .ok (.enter f args) w := by
  simp [execOp, h, hf, go_sem, hr]
theorem dstep_value {o : Oper} {ρ : Operand → Value} {i : Nat} {S : World → Prop} {w w' : World} (hw : dwant V o = true) (h : (execOp ρ o).run P w = .ok (.value (V i)) w') (hS : S w') : DStep P o ρ V i S R w := by
  unfold DStep
  rw [if_pos hw, h]
  exact ⟨rfl, hS⟩
theorem dstep_skip {o : Oper} {ρ : Operand → Value} {i : Nat} {S : World → Prop} {w w' : World} (hw : dwant V o = true) (h : (execOp ρ o).run P w = .ok .skip w') (hV : V i = undef) (hS : S w') : DStep P o ρ V i S R w := by
  unfold DStep
  rw [if_pos hw, h]
  exact ⟨hV, hS⟩
theorem dstep_enter {o : Oper} {ρ : Operand → Value} {i : Nat} {S : World → Prop} {w w' : World} {f : FuncId} {args : Array Value} (hw : dwant V o = true) (h : (execOp ρ o).run P w = .ok (.enter f args) w') (hc : Calls P f args w' fun e w'' => e = .returned (V i) ∧ S w'') : DStep P o ρ V i S R w := by
  unfold DStep
  rw [if_pos hw, h]
  exact hc.mono fun e w'' h => .inl h
theorem dstep_off {o : Oper} {ρ : Operand → Value} {i : Nat} {S : World → Prop} {w : World} (hw : dwant V o = false) (hV : V i = undef) (hS : S w) : DStep P o ρ V i S R w := by
  unfold DStep
  rw [if_neg (by rw [hw]; decide)]
  exact ⟨hV, hS⟩

theorem dwriter_some {t k : Nat} (h : dwriter ops t = some k) : ∃ o, ops[k]? = some o ∧ o.dst = some t := by
  unfold dwriter at h
  have := List.find?_some h
  cases ho : ops[k]? with
  | none => rw [ho] at this; simp at this
  | some o => rw [ho] at this; exact ⟨o, rfl, by simpa using this⟩
theorem dwriter_none {t : Nat} (h : dwriter ops t = none) {k : Nat} {o : Oper} (ho : ops[k]? = some o) : o.dst ≠ some t := by
  unfold dwriter at h
  have := List.find?_eq_none.1 h k (List.mem_range.2 (Array.getElem?_eq_some_iff.1 ho).1)
  rw [ho] at this
  simpa using this
theorem dfits_at {n : Nat} (h : dfits ops anc n = true) {i : Nat} {o : Oper} (ho : ops[i]? = some o) : dfit ops anc n i o = true := by
  unfold dfits at h
  rw [List.all_eq_true] at h
  have := h i (List.mem_range.2 (Array.getElem?_eq_some_iff.1 ho).1)
  rw [ho] at this
  exact this

/-- What holds while operations are listed. -/
structure DI (ops : Array Oper) (anc : List (List Nat)) (V : Nat → Value) (T : Array Value) (D : List Deferred) (S : (Nat → Bool) → World → Prop) (listed : Array Bool) (a : Act) (w : World) : Prop where
  defers : a.defers = D
  size : a.tmps.size = T.size
  new : ∀ i o d, ops[i]? = some o → o.dst = some d → listed.getD i false = true → a.tmps[d]? = some (V i)
  old : ∀ d, (∀ i o, ops[i]? = some o → o.dst = some d → listed.getD i false = false) → a.tmps[d]? = T[d]?
  closed : ∀ i, listed.getD i false = true → ∀ k ∈ dal anc i, listed.getD k false = true
  world : S (fun i => listed.getD i false) w

theorem dget {a : Act} {d : Nat} {v : Value} (h : a.tmps[d]? = some v) : a.eval (.tmp d) = v := by
  show a.tmps.getD d undef = v
  rw [Array.getD_eq_getD_getElem?, h]
  rfl
theorem dget_old {a : Act} {d : Nat} (h : a.tmps[d]? = T[d]?) : a.eval (.tmp d) = T.getD d undef := by
  show a.tmps.getD d undef = _
  rw [Array.getD_eq_getD_getElem?, Array.getD_eq_getD_getElem?, h]

theorem DI.put {listed : Array Bool} {a : Act} {w w' : World} {i : Nat} {o : Oper} (hI : DI ops anc V T D S listed a w) (hfit : dfits ops anc T.size = true) (ho : ops[i]? = some o) (hs : i < listed.size) (hk : ∀ k ∈ dal anc i, listed.getD k false = true) (hw : S (dset (fun j => listed.getD j false) i) w') :
    DI ops anc V T D S (listed.setIfInBounds i true) (a.put o.dst (V i)) w' := by
  have hm : ∀ j, (listed.setIfInBounds i true).getD j false = if j = i then true else listed.getD j false := fun j => getD_set hs
  have hf := dfits_at hfit ho
  simp only [dfit, Bool.and_eq_true] at hf
  obtain ⟨_, _, _, hd, _⟩ := hf
  have hp : ∀ j, (a.put o.dst (V i)).tmps[j]? = if o.dst = some j then some (V i) else a.tmps[j]? := by
    intro j
    cases hdd : o.dst with
    | none => rw [if_neg (by simp)]; rfl
    | some d =>
      rw [hdd] at hd
      have hlt : d < a.tmps.size := by rw [hI.size]; simp at hd; exact hd.1
      rw [tm_put _ _ _ _ hlt]
      by_cases e : j = d
      · rw [if_pos e, if_pos (by rw [e])]
      · rw [if_neg e, if_neg (by intro h; injection h with h; exact e h.symm)]
  have hu : ∀ j (oj : Oper) d, ops[j]? = some oj → oj.dst = some d → o.dst = some d → j = i := by
    intro j oj d hj hjd hid
    have h1 := dfits_at hfit hj
    simp only [dfit, Bool.and_eq_true] at h1
    obtain ⟨_, _, _, h1, _⟩ := h1
    rw [hjd] at h1
    rw [hid] at hd
    simp at h1 hd
    have := h1.2.symm.trans hd.2
    injection this
  refine ⟨?_, ?_, ?_, ?_, ?_, ?_⟩
  · cases hdd : o.dst <;> exact hI.defers
  · rw [← hI.size]
    cases hdd : o.dst with
    | none => rfl
    | some d => simp [Act.put]
  · intro j oj d hj hjd hl
    rw [hm] at hl
    rw [hp]
    by_cases e : j = i
    · subst e
      obtain rfl := Option.some.inj (ho.symm.trans hj)
      rw [if_pos hjd]
    · rw [if_neg e] at hl
      rw [if_neg (fun h => e (hu j oj d hj hjd h))]
      exact hI.new j oj d hj hjd hl
  · intro d h
    rw [hp]
    by_cases e : o.dst = some d
    · have := h i o ho e
      rw [hm, if_pos rfl] at this
      cases this
    · rw [if_neg e]
      refine hI.old d fun j oj hj hjd => ?_
      have := h j oj hj hjd
      rw [hm] at this
      split at this
      · cases this
      · exact this
  · intro j hj k hkk
    rw [hm] at hj ⊢
    by_cases e : j = i
    · subst e
      rw [hk k hkk]
      simp
    · rw [if_neg e] at hj
      rw [hI.closed j hj k hkk]
      simp
  · have : (fun j => (listed.setIfInBounds i true).getD j false) = dset (fun j => listed.getD j false) i := funext fun j => by rw [hm]; rfl
    rw [this]
    exact hw

theorem drawn_region {id : Nat} {w : World} (hm : P.follows .mixedOrders = true) (hfit : dfits ops anc T.size = true)
    (hS0 : S (fun _ => false) { w with drawn := w.drawn + 1 })
    (hstep : ∀ i o, ops[i]? = some o → ∀ m w', (∀ k ∈ dal anc i, m k = true) → m i = false → S m w' → DStep P o (dval ops anc V T i) V i (S (dset m i)) R w')
    (hp : ∀ c a w', a.defers = D → a.tmps.size = T.size → (∀ j, dwriter ops j = none → a.tmps[j]? = T[j]?) → R c w' → Q (.panic c) a w')
    (hdone : ∀ w', S (fun i => decide (i < ops.size)) w' → Q .normal { tmps := dfin ops V T, defers := D } w') :
    (Code.region id ops true).wp P Q { tmps := T, defers := D } w := by
  refine wp_region_any hm ?_
  refine wpAny_inv (DI ops anc V T D S) ?step ?done ops.size _ _ _ (by rw [Array.size_replicate]) ?cnt ?start
  case cnt => unfold cntF; simp
  case start =>
    refine ⟨rfl, rfl, ?_, ?_, ?_, ?_⟩
    · intro i o d _ _ h; rw [repl_getD] at h; cases h
    · intro d _; rfl
    · intro i h; rw [repl_getD] at h; cases h
    · have : (fun i => (Array.replicate ops.size false).getD i false) = fun _ => false := funext fun i => repl_getD _ _
      rw [this]
      exact hS0
  case done =>
    intro listed a w1 hs hI hr
    have hb : ∀ (i : Nat) (o : Oper), ops[i]? = some o → ∀ e ∈ o.after, e.on < i := by
      intro i o ho e he
      have h1 := dfits_at hfit ho
      simp only [dfit, Bool.and_eq_true] at h1
      obtain ⟨_, h1, _⟩ := h1
      rw [List.all_eq_true] at h1
      simpa using h1 e (by simpa using he)
    have hall : ∀ i, i < ops.size → listed.getD i false = true := fun i hi => all_listed hs hr hb ops.size i hi hi
    have hmm : (fun i => listed.getD i false) = fun i => decide (i < ops.size) := funext fun i => by
      by_cases h : i < ops.size
      · rw [hall i h]; simp [h]
      · rw [Array.getD_eq_getD_getElem?, Array.getElem?_eq_none (by omega)]; simp [h]
    have hw := hI.world
    rw [hmm] at hw
    obtain ⟨tm, df⟩ := a
    have h1 : df = D := hI.defers
    subst h1
    have h2 : tm = dfin ops V T := by
      apply Array.ext_getElem?
      intro j
      have hz : tm.size = T.size := hI.size
      unfold dfin
      have e : ∀ L : List Value, L.toArray[j]? = L[j]? := fun L => List.getElem?_toArray
      rw [e (List.map _ _), List.getElem?_map]
      by_cases hj : j < T.size
      · rw [List.getElem?_range hj]
        show tm[j]? = some (dslot ops V T j)
        unfold dslot
        cases hd : dwriter ops j with
        | some k =>
          obtain ⟨o, ho, hod⟩ := dwriter_some hd
          exact hI.new k o j ho hod (hall k (Array.getElem?_eq_some_iff.1 ho).1)
        | none =>
          have := hI.old j (fun i o ho hod => absurd hod (dwriter_none hd ho))
          have this : tm[j]? = T[j]? := this
          rw [this, Array.getElem?_eq_getElem hj]
          simp [hj]
      · rw [Array.getElem?_eq_none (by omega), List.getElem?_eq_none (by simpa using hj)]
        rfl
    rw [h2]
    exact hdone w1 hw
  case step =>
    intro listed a w1 i hs hI hi
    obtain ⟨hl, o, ho, hafter⟩ := ready_of hi
    have hlt : i < listed.size := by rw [hs]; exact (Array.getElem?_eq_some_iff.1 ho).1
    have hl2 := getD_tf hlt hl
    have hf := dfits_at hfit ho
    simp only [dfit, Bool.and_eq_true] at hf
    obtain ⟨f1, _, f3, _, f5, f6⟩ := hf
    have hk : ∀ k ∈ dal anc i, listed.getD k false = true := by
      intro k hk
      rw [List.all_eq_true] at f1
      have := f1 k hk
      rw [List.any_eq_true] at this
      obtain ⟨e, he, h⟩ := this
      rw [Bool.and_eq_true, Bool.or_eq_true] at h
      have hle := hafter e (by simpa using he) h.1
      rcases h.2 with h | h
      · rw [← (by simpa using h : e.on = k)]; exact hle
      · exact hI.closed e.on hle k (by simpa using h)
    have hrho : ∀ x ∈ o.op.operands, a.eval x = dval ops anc V T i x := by
      intro x hx
      rw [List.all_eq_true] at f6
      have h6 := f6 x (by simpa using hx)
      cases x with
      | const v => rfl
      | global g => rfl
      | func f => rfl
      | tmp t =>
        unfold dval
        simp only at h6 ⊢
        cases hd : dwriter ops t with
        | none =>
          exact dget_old (hI.old t (fun j oj hj hjd => absurd hjd (dwriter_none hd hj)))
        | some k =>
          rw [hd] at h6
          simp only at h6 ⊢
          obtain ⟨ok, hok, hokd⟩ := dwriter_some hd
          cases hc : (dal anc i).contains k with
          | true =>
            rw [if_pos rfl]
            exact dget (hI.new k ok t hok hokd (hk k (by simpa using hc)))
          | false =>
            rw [if_neg (by decide)]
            rw [hc, Bool.false_or, Bool.or_eq_true] at h6
            refine dget_old (hI.old t (fun j oj hj hjd => ?_))
            have hjk : j = k := by
              have h1 := dfits_at hfit hj
              simp only [dfit, Bool.and_eq_true] at h1
              obtain ⟨_, _, _, h1, _⟩ := h1
              rw [hjd] at h1
              simp at h1
              exact Option.some.inj (h1.2.symm.trans hd)
            subst hjk
            rcases h6 with h6 | h6
            · rw [(by simpa using h6 : j = i)]; exact hl2
            · cases hlj : listed.getD j false with
              | false => rfl
              | true =>
                have := hI.closed j hlj i (by simpa using h6)
                rw [hl2] at this
                cases this
    have hwant : Region.wanted o (yielded ops a.tmps) = dwant V o := by
      unfold Region.wanted dwant
      cases hg : o.guard with
      | none => rfl
      | some gb =>
        obtain ⟨g, b⟩ := gb
        rw [hg] at f5
        simp only [Bool.and_eq_true] at f5 ⊢
        obtain ⟨f5, f5'⟩ := f5
        cases hog : ops[g]? with
        | none => rw [hog] at f5'; simp at f5'
        | some og =>
          rw [hog] at f5'
          cases hgd : og.dst with
          | none => simp [hgd] at f5'
          | some d =>
            have hn := hI.new g og d hog hgd (hk g (by simpa using f5))
            have hy : yielded ops a.tmps g = match V g with
                | .bool b => some b
                | _ => none := by
              unfold yielded
              rw [hog]
              simp only [Option.bind_some, hgd, hn]
              cases V g <;> rfl
            rw [hy]
            cases V g <;> first | rfl | (cases b <;> rename_i x <;> cases x <;> rfl)
    have hst := hstep i o ho (fun j => listed.getD j false) w1 hk hl2 hI.world
    unfold DStep at hst
    unfold wpOp
    rw [ho]
    simp only
    rw [hwant]
    cases hdw : dwant V o with
    | false =>
      rw [hdw] at hst
      simp only [Bool.false_eq_true, if_false] at hst ⊢
      rw [← hst.1]
      exact hI.put hfit ho hlt hk hst.2
    | true =>
      rw [hdw, if_pos rfl] at hst
      simp only [if_true]
      refine .inl ?_
      unfold Oper.wp
      have hsel : ∀ cs b, o.op ≠ .select cs b := by
        intro cs b e
        rw [e] at f3
        cases f3
      rw [execOp_congr o hsel hrho]
      generalize (execOp (dval ops anc V T i) o).run P w1 = r at hst ⊢
      match r, hst with
      | .ok (.value u) w2, h =>
        obtain ⟨rfl, h⟩ := h
        exact hI.put hfit ho hlt hk h
      | .ok .skip w2, h =>
        obtain ⟨h0, h⟩ := h
        show DI ops anc V T D S _ (a.put o.dst undef) w2
        rw [← h0]
        exact hI.put hfit ho hlt hk h
      | .ok (.enter f args) w2, h =>
        rw [Oper.upon_enter]
        refine Calls.mono h ?_
        rintro e w3 (⟨rfl, h⟩ | ⟨c, rfl, h⟩)
        · exact hI.put hfit ho hlt hk h
        · exact hp c a w3 hI.defers hI.size (fun j hj => hI.old j (fun k ok hk' hkd => absurd hkd (dwriter_none hj hk'))) h
end
end Go.Proofs.YthfopimgdikpgaaGreatDoor

namespace Go.Proofs.YthfopimgdikpgaaGreatDoor
open Go.RowKit

noncomputable def slOps : Array Oper := ((Tryz.f5.body).bind (dfind 3)).getD #[]
theorem sl_size : slOps.size = 16 := by kernel_rfl
theorem sl_o0 : ∃ o, slOps[0]? = some o ∧ o.guard = none ∧ o.op = .call { callee := .value (.func 9), args := #[], argTypes := #[] } := ⟨_, by rfl, by rfl, by rfl⟩
theorem sl_o1 : ∃ o, slOps[1]? = some o ∧ o.guard = none ∧ o.op = .move (.tmp 14) := ⟨_, by rfl, by rfl, by rfl⟩
theorem sl_o2 : ∃ o, slOps[2]? = some o ∧ o.guard = some (1, true) ∧ o.op = .load 27 (.tmp 2) := ⟨_, by rfl, by rfl, by rfl⟩
theorem sl_o3 : ∃ o, slOps[3]? = some o ∧ o.guard = some (1, true) ∧ o.op = .load 27 (.tmp 3) := ⟨_, by rfl, by rfl, by rfl⟩
theorem sl_o4 : ∃ o, slOps[4]? = some o ∧ o.guard = some (1, true) ∧ o.op = .call { callee := .value (.func 16), args := #[(.tmp 16), (.tmp 17)], argTypes := #[27, 27] } := ⟨_, by rfl, by rfl, by rfl⟩
theorem sl_o5 : ∃ o, slOps[5]? = some o ∧ o.guard = some (1, true) ∧ o.op = .load 27 (.tmp 2) := ⟨_, by rfl, by rfl, by rfl⟩
theorem sl_o6 : ∃ o, slOps[6]? = some o ∧ o.guard = some (1, true) ∧ o.op = .load 27 (.tmp 3) := ⟨_, by rfl, by rfl, by rfl⟩
theorem sl_o7 : ∃ o, slOps[7]? = some o ∧ o.guard = some (1, true) ∧ o.op = .call { callee := .value (.func 12), args := #[(.tmp 19), (.tmp 20)], argTypes := #[27, 27] } := ⟨_, by rfl, by rfl, by rfl⟩
theorem sl_o8 : ∃ o, slOps[8]? = some o ∧ o.guard = some (1, true) ∧ o.op = .binOp .eql 4 (.tmp 18) (.tmp 21) 4 := ⟨_, by rfl, by rfl, by rfl⟩
theorem sl_o9 : ∃ o, slOps[9]? = some o ∧ o.guard = none ∧ o.op = .pick (.tmp 15) (.tmp 22) (.const (Value.bool false)) := ⟨_, by rfl, by rfl, by rfl⟩
theorem sl_o10 : ∃ o, slOps[10]? = some o ∧ o.guard = none ∧ o.op = .move (.tmp 23) := ⟨_, by rfl, by rfl, by rfl⟩
theorem sl_o11 : ∃ o, slOps[11]? = some o ∧ o.guard = some (10, true) ∧ o.op = .load 27 (.tmp 2) := ⟨_, by rfl, by rfl, by rfl⟩
theorem sl_o12 : ∃ o, slOps[12]? = some o ∧ o.guard = some (10, true) ∧ o.op = .load 27 (.tmp 2) := ⟨_, by rfl, by rfl, by rfl⟩
theorem sl_o13 : ∃ o, slOps[13]? = some o ∧ o.guard = some (10, true) ∧ o.op = .call { callee := .value (.func 16), args := #[(.tmp 25), (.tmp 26)], argTypes := #[27, 27] } := ⟨_, by rfl, by rfl, by rfl⟩
theorem sl_o14 : ∃ o, slOps[14]? = some o ∧ o.guard = none ∧ o.op = .pick (.tmp 24) (.tmp 27) (.const (Value.bool false)) := ⟨_, by rfl, by rfl, by rfl⟩
theorem sl_o15 : ∃ o, slOps[15]? = some o ∧ o.guard = none ∧ o.op = .assign (.tmp 28) := ⟨_, by rfl, by rfl, by rfl⟩
theorem sl_fit : dfits slOps (dahead slOps) 29 = true := by kernel_rfl
/-- What the operations yield. -/
def slV (va vb : Value) (q : Bool) : Nat → Value
  | 0 => .bool true
  | 1 => .bool true
  | 2 => va
  | 3 => vb
  | 4 => .bool q
  | 5 => va
  | 6 => vb
  | 7 => .bool q
  | 8 => .bool true
  | 9 => .bool true
  | 10 => .bool true
  | 11 => va
  | 12 => va
  | 13 => .bool true
  | 14 => .bool true
  | 15 => .bool true
  | _ => undef

set_option maxRecDepth 100000 in
set_option maxHeartbeats 1000000 in
theorem sl_step (va vb : Value) (q : Bool) (p2 p3 : Value) (T : Array Value) (hT2 : T.getD 2 undef = p2) (hT3 : T.getD 3 undef = p3) (S : World → Prop)
    (L2 : ∀ W, S W → (Instr.loadAt 27 p2).run Tryz.prog W = .ok va W)
    (L3 : ∀ W, S W → (Instr.loadAt 27 p3).run Tryz.prog W = .ok vb W)
    (AL : ∀ W, S W → Calls Tryz.prog 9 #[] W fun e w' => e = .returned (.bool true) ∧ S w')
    (PS : ∀ W, S W → Calls Tryz.prog 16 #[va, vb] W fun e w' => e = .returned (.bool q) ∧ S w')
    (RS : ∀ W, S W → Calls Tryz.prog 12 #[va, vb] W fun e w' => e = .returned (.bool q) ∧ S w')
    (PR : ∀ W, S W → Calls Tryz.prog 16 #[va, va] W fun e w' => e = .returned (.bool true) ∧ S w') :
    ∀ i o, slOps[i]? = some o → ∀ (m : Nat → Bool) w', (∀ k ∈ dal (dahead slOps) i, m k = true) → m i = false → S w' → DStep Tryz.prog o (dval slOps (dahead slOps) (slV va vb q) T i) (slV va vb q) i S (fun _ _ => False) w' := by
  intro i o ho m w' _ _ hS
  have hi : i < 16 := by rw [← sl_size]; exact (Array.getElem?_eq_some_iff.1 ho).1
  rcases i with _ | _ | _ | _ | _ | _ | _ | _ | _ | _ | _ | _ | _ | _ | _ | _ | i
  · obtain ⟨o', ho', hg, hop⟩ := sl_o0
    obtain rfl := Option.some.inj (ho'.symm.trans ho)
    exact dstep_enter (by simp [dwant, hg]) (dexec_call hop rfl (by simp [go_sem])) (AL _ hS)
  · obtain ⟨o', ho', hg, hop⟩ := sl_o1
    obtain rfl := Option.some.inj (ho'.symm.trans ho)
    have r14 : dval slOps (dahead slOps) (slV va vb q) T 1 (.tmp 14) = .bool true := by kernel_rfl
    exact dstep_value (by simp [dwant, hg]) (show (execOp _ _).run Tryz.prog w' = .ok (.value (.bool true)) w' by simp [execOp, hop, go_sem, r14]) hS
  · obtain ⟨o', ho', hg, hop⟩ := sl_o2
    obtain rfl := Option.some.inj (ho'.symm.trans ho)
    have r2 : dval slOps (dahead slOps) (slV va vb q) T 2 (.tmp 2) = p2 := (show _ = T.getD 2 undef by kernel_rfl).trans hT2
    exact dstep_value (by simp [dwant, hg, slV]) (dexec_load hop (by rw [r2]; exact L2 _ hS)) hS
  · obtain ⟨o', ho', hg, hop⟩ := sl_o3
    obtain rfl := Option.some.inj (ho'.symm.trans ho)
    have r3 : dval slOps (dahead slOps) (slV va vb q) T 3 (.tmp 3) = p3 := (show _ = T.getD 3 undef by kernel_rfl).trans hT3
    exact dstep_value (by simp [dwant, hg, slV]) (dexec_load hop (by rw [r3]; exact L3 _ hS)) hS
  · obtain ⟨o', ho', hg, hop⟩ := sl_o4
    obtain rfl := Option.some.inj (ho'.symm.trans ho)
    have r16 : dval slOps (dahead slOps) (slV va vb q) T 4 (.tmp 16) = va := by kernel_rfl
    have r17 : dval slOps (dahead slOps) (slV va vb q) T 4 (.tmp 17) = vb := by kernel_rfl
    exact dstep_enter (by simp [dwant, hg, slV]) (dexec_call hop rfl (by simp [go_sem, r16, r17])) (PS _ hS)
  · obtain ⟨o', ho', hg, hop⟩ := sl_o5
    obtain rfl := Option.some.inj (ho'.symm.trans ho)
    have r2 : dval slOps (dahead slOps) (slV va vb q) T 5 (.tmp 2) = p2 := (show _ = T.getD 2 undef by kernel_rfl).trans hT2
    exact dstep_value (by simp [dwant, hg, slV]) (dexec_load hop (by rw [r2]; exact L2 _ hS)) hS
  · obtain ⟨o', ho', hg, hop⟩ := sl_o6
    obtain rfl := Option.some.inj (ho'.symm.trans ho)
    have r3 : dval slOps (dahead slOps) (slV va vb q) T 6 (.tmp 3) = p3 := (show _ = T.getD 3 undef by kernel_rfl).trans hT3
    exact dstep_value (by simp [dwant, hg, slV]) (dexec_load hop (by rw [r3]; exact L3 _ hS)) hS
  · obtain ⟨o', ho', hg, hop⟩ := sl_o7
    obtain rfl := Option.some.inj (ho'.symm.trans ho)
    have r19 : dval slOps (dahead slOps) (slV va vb q) T 7 (.tmp 19) = va := by kernel_rfl
    have r20 : dval slOps (dahead slOps) (slV va vb q) T 7 (.tmp 20) = vb := by kernel_rfl
    exact dstep_enter (by simp [dwant, hg, slV]) (dexec_call hop rfl (by simp [go_sem, r19, r20])) (RS _ hS)
  · obtain ⟨o', ho', hg, hop⟩ := sl_o8
    obtain rfl := Option.some.inj (ho'.symm.trans ho)
    have r18 : dval slOps (dahead slOps) (slV va vb q) T 8 (.tmp 18) = .bool q := by kernel_rfl
    have r21 : dval slOps (dahead slOps) (slV va vb q) T 8 (.tmp 21) = .bool q := by kernel_rfl
    exact dstep_value (by simp [dwant, hg, slV]) (show (execOp _ _).run Tryz.prog w' = .ok (.value (.bool true)) w' by simp [execOp, hop, go_sem, r18, r21]) hS
  · obtain ⟨o', ho', hg, hop⟩ := sl_o9
    obtain rfl := Option.some.inj (ho'.symm.trans ho)
    have r15 : dval slOps (dahead slOps) (slV va vb q) T 9 (.tmp 15) = .bool true := by kernel_rfl
    have r22 : dval slOps (dahead slOps) (slV va vb q) T 9 (.tmp 22) = .bool true := by kernel_rfl
    exact dstep_value (by simp [dwant, hg]) (show (execOp _ _).run Tryz.prog w' = .ok (.value (.bool true)) w' by simp [execOp, hop, go_sem, r15, r22]) hS
  · obtain ⟨o', ho', hg, hop⟩ := sl_o10
    obtain rfl := Option.some.inj (ho'.symm.trans ho)
    have r23 : dval slOps (dahead slOps) (slV va vb q) T 10 (.tmp 23) = .bool true := by kernel_rfl
    exact dstep_value (by simp [dwant, hg]) (show (execOp _ _).run Tryz.prog w' = .ok (.value (.bool true)) w' by simp [execOp, hop, go_sem, r23]) hS
  · obtain ⟨o', ho', hg, hop⟩ := sl_o11
    obtain rfl := Option.some.inj (ho'.symm.trans ho)
    have r2 : dval slOps (dahead slOps) (slV va vb q) T 11 (.tmp 2) = p2 := (show _ = T.getD 2 undef by kernel_rfl).trans hT2
    exact dstep_value (by simp [dwant, hg, slV]) (dexec_load hop (by rw [r2]; exact L2 _ hS)) hS
  · obtain ⟨o', ho', hg, hop⟩ := sl_o12
    obtain rfl := Option.some.inj (ho'.symm.trans ho)
    have r2 : dval slOps (dahead slOps) (slV va vb q) T 12 (.tmp 2) = p2 := (show _ = T.getD 2 undef by kernel_rfl).trans hT2
    exact dstep_value (by simp [dwant, hg, slV]) (dexec_load hop (by rw [r2]; exact L2 _ hS)) hS
  · obtain ⟨o', ho', hg, hop⟩ := sl_o13
    obtain rfl := Option.some.inj (ho'.symm.trans ho)
    have r25 : dval slOps (dahead slOps) (slV va vb q) T 13 (.tmp 25) = va := by kernel_rfl
    have r26 : dval slOps (dahead slOps) (slV va vb q) T 13 (.tmp 26) = va := by kernel_rfl
    exact dstep_enter (by simp [dwant, hg, slV]) (dexec_call hop rfl (by simp [go_sem, r25, r26])) (PR _ hS)
  · obtain ⟨o', ho', hg, hop⟩ := sl_o14
    obtain rfl := Option.some.inj (ho'.symm.trans ho)
    have r24 : dval slOps (dahead slOps) (slV va vb q) T 14 (.tmp 24) = .bool true := by kernel_rfl
    have r27 : dval slOps (dahead slOps) (slV va vb q) T 14 (.tmp 27) = .bool true := by kernel_rfl
    exact dstep_value (by simp [dwant, hg]) (show (execOp _ _).run Tryz.prog w' = .ok (.value (.bool true)) w' by simp [execOp, hop, go_sem, r24, r27]) hS
  · obtain ⟨o', ho', hg, hop⟩ := sl_o15
    obtain rfl := Option.some.inj (ho'.symm.trans ho)
    have r28 : dval slOps (dahead slOps) (slV va vb q) T 15 (.tmp 28) = .bool true := by kernel_rfl
    exact dstep_value (by simp [dwant, hg]) (show (execOp _ _).run Tryz.prog w' = .ok (.value (.bool true)) w' by simp [execOp, hop, go_sem, r28]) hS
  · omega

/-- What is kept in this region. -/
def SlS (w W0 : World) (a b : CI) (A1 A2 : Option Addr) (k1 k2 : Nat) (A3 A4 : Option Addr) (k3 k4 : Nat) (W : World) : Prop := Box2 w W a b A1 A2 k1 k2 A3 A4 k3 k4 ∧ Below W0.heap.size W0 W
theorem load9 {W : World} {g : Nat} {a0 a1 a2 a3 a4 a5 a6 a7 a8 : Value} {z : Nat × Nat} (h : W.heap[g]? = some (.cells #[a0, a1, a2, a3, a4, a5, a6, a7, a8] 27 z))
    (s0 : ∃ x, a0 = .string x) (s1 : ∃ x, a1 = .int .i64 x) (s2 : ∃ x, a2 = .string x) (s3 : ∃ A n k, a3 = .slice A n k) (s4 : ∃ x, a4 = .int .i64 x) (s5 : ∃ x, a5 = .int .i64 x) (s6 : ∃ x, a6 = .bool x) (s7 : ∃ x, a7 = .int .u8 x) (s8 : ∃ A n k, a8 = .slice A n k) :
    (Instr.loadAt 27 (.pointer (some ⟨g, 0, none⟩))).run Tryz.prog W = .ok (.agg #[a0, a1, a2, a3, a4, a5, a6, a7, a8]) W := by
  obtain ⟨x0, x1, x2, x3, x4, x5, x6, x7, x8⟩ := cells9 h
  obtain ⟨s, rfl⟩ := s0
  obtain ⟨s, rfl⟩ := s1
  obtain ⟨s, rfl⟩ := s2
  obtain ⟨_, _, _, rfl⟩ := s3
  obtain ⟨s, rfl⟩ := s4
  obtain ⟨s, rfl⟩ := s5
  obtain ⟨s, rfl⟩ := s6
  obtain ⟨s, rfl⟩ := s7
  obtain ⟨_, _, _, rfl⟩ := s8
  simp [go_sem, x0, x1, x2, x3, x4, x5, x6, x7, x8]
set_option maxRecDepth 100000 in
set_option maxHeartbeats 1000000 in
theorem commandSame_big (a : CI) (A1 A2 : Option Addr) (k1 k2 : Nat) (b : CI) (A3 A4 : Option Addr) (k3 k4 : Nat) (w : World) (henv : Env w) (s1 : SlAt encR 2 w A1 a.set) (s2 : ByAt w.heap.size w A2 k2 a.data) (s3 : SlAt encR 2 w A3 b.set) (s4 : ByAt w.heap.size w A4 k4 b.data) (ha : fewC a = true) (hb : fewC b = true) :
    Calls Tryz.prog 5 #[ciV a A1 A2 k1 k2, ciV b A3 A4 k3 k4] w fun e w' => e = .returned (.bool true) ∧ Below w.heap.size w w' := by
  have AL := Lib.hid (fun W (hW : Below w.heap.size w W) => alive7_any W (henv.below hW))
  have FA := Lib.hid (fun W => (few_any a A1 A2 k1 k2 W).mono (fun e w' h => (show e = .returned (.bool true) ∧ Below W.heap.size W w' from ha ▸ h)))
  have FB := Lib.hid (fun W => (few_any b A3 A4 k3 k4 W).mono (fun e w' h => (show e = .returned (.bool true) ∧ Below W.heap.size W w' from hb ▸ h)))
  have da := fewC_bd ha
  have db := fewC_bd hb
  have PS := Lib.hid (fun W (hW : Below w.heap.size w W) => psame_any a b A1 A2 A3 A4 _ k1 _ k2 _ k3 _ k4 rfl rfl rfl rfl (by omega) (by omega) (by omega) (by omega) W (s1.below hW) ((s2.below hW).mono hW.size) (s3.below hW) ((s4.below hW).mono hW.size))
  have RS := Lib.hid (fun W (hW : Below w.heap.size w W) => rsame_any a b A1 A2 A3 A4 _ k1 _ k2 _ k3 _ k4 rfl rfl rfl rfl (by omega) (by omega) (by omega) (by omega) W (s1.below hW) ((s2.below hW).mono hW.size) (s3.below hW) ((s4.below hW).mono hW.size))
  have PR := Lib.hid (fun W (hW : Below w.heap.size w W) => psame_any a a A1 A2 A1 A2 _ k1 _ k2 _ k1 _ k2 rfl rfl rfl rfl (by omega) (by omega) (by omega) (by omega) W (s1.below hW) ((s2.below hW).mono hW.size) (s1.below hW) ((s2.below hW).mono hW.size))
  rw [sameC_refl7] at PR
  have HW := Lib.hid (Box2.start w a b A1 A2 k1 k2 A3 A4 k3 k4)
  clear henv s1 s2 s3 s4 ha hb da db
  unfold ciV at *
  go_enter Tryz.func5, Tryz.ntmps5
  go_upto_region 1 with (fail)
  generalize (w.alloc (.cells #[.string ⟨a.tag.toArray⟩, .int .i64 a.kind, .string ⟨a.mbox.toArray⟩, .slice A1 a.set.length k1, .int .i64 a.items, .int .i64 a.mode, .bool a.silent, .int .u8 a.flags, .slice A2 a.data.length k2] 27)).alloc (.cells #[.string ⟨b.tag.toArray⟩, .int .i64 b.kind, .string ⟨b.mbox.toArray⟩, .slice A3 b.set.length k3, .int .i64 b.items, .int .i64 b.mode, .bool b.silent, .int .u8 b.flags, .slice A4 b.data.length k4] 27) = W2 at *
  obtain ⟨x0, x1, x2, x3, x4, x5, x6, x7, x8⟩ := cells9 HW.out.1
  go_wp2_with fail
  refine (FA.out _).mono ?_
  rintro e w3 ⟨rfl, hb3⟩
  have HW3 := Lib.hid (HW.out.below hb3)
  clear x0 x1 x2 x3 x4 x5 x6 x7 x8 HW hb3 FA
  obtain ⟨y0, y1, y2, y3, y4, y5, y6, y7, y8⟩ := cells9 HW3.out.2.1
  go_wp2_with fail
  refine (FB.out _).mono ?_
  rintro e w4 ⟨rfl, hb4⟩
  have HW4 := Lib.hid (HW3.out.below hb4)
  clear y0 y1 y2 y3 y4 y5 y6 y7 y8 HW3 hb4 FB
  go_upto_region 3 with (fail)
  rename_i K hK
  have HW4b := Lib.hid (HW4.out.below (drewN_below7 w4 1))
  generalize hva : Value.agg #[.string ⟨a.tag.toArray⟩, .int .i64 a.kind, .string ⟨a.mbox.toArray⟩, .slice A1 a.set.length k1, .int .i64 a.items, .int .i64 a.mode, .bool a.silent, .int .u8 a.flags, .slice A2 a.data.length k2] = va at *
  generalize hvb : Value.agg #[.string ⟨b.tag.toArray⟩, .int .i64 b.kind, .string ⟨b.mbox.toArray⟩, .slice A3 b.set.length k3, .int .i64 b.items, .int .i64 b.mode, .bool b.silent, .int .u8 b.flags, .slice A4 b.data.length k4] = vb at *
  have ST := fun T hT2 hT3 => sl_step va vb (sameC a b) (.pointer (some ⟨w.heap.size, 0, none⟩)) (.pointer (some ⟨w.heap.size + 1, 0, none⟩)) T hT2 hT3 (fun W => Box2 w W a b A1 A2 k1 k2 A3 A4 k3 k4)
    (fun W h => by rw [← hva]; exact load9 h.1 ⟨_, rfl⟩ ⟨_, rfl⟩ ⟨_, rfl⟩ ⟨_, _, _, rfl⟩ ⟨_, rfl⟩ ⟨_, rfl⟩ ⟨_, rfl⟩ ⟨_, rfl⟩ ⟨_, _, _, rfl⟩)
    (fun W h => by rw [← hvb]; exact load9 h.2.1 ⟨_, rfl⟩ ⟨_, rfl⟩ ⟨_, rfl⟩ ⟨_, _, _, rfl⟩ ⟨_, rfl⟩ ⟨_, rfl⟩ ⟨_, rfl⟩ ⟨_, rfl⟩ ⟨_, _, _, rfl⟩)
    (fun W h => (AL.out W h.2.2.1).mono fun e w' q => ⟨q.1, h.below q.2⟩)
    (fun W h => (PS.out W h.2.2.1).mono fun e w' q => ⟨q.1, h.below q.2⟩)
    (fun W h => (RS.out W h.2.2.1).mono fun e w' q => ⟨q.1, h.below q.2⟩)
    (fun W h => (PR.out W h.2.2.1).mono fun e w' q => ⟨q.1, h.below q.2⟩)
  clear AL PS RS PR
  refine drawn_region (ops := slOps) (anc := dahead slOps) (V := slV va vb (sameC a b)) (S := fun _ W => Box2 w W a b A1 A2 k1 k2 A3 A4 k3 k4) (R := fun _ _ => False) (by kernel_rfl) sl_fit HW4b.out (ST _ rfl rfl) (fun c a w' _ _ _ h => h.elim) (fun w' h => ?_)
  refine hK _ _ ?_
  clear ST HW4 HW4b
  have HB := Lib.hid h.2.2.1
  go_wp2_with fail
  refine bodyPost_ret (v := .bool true) (by simp [results, Tryz.results5, go_sem]; kernel_rfl) rfl ⟨rfl, HB.out⟩

/-- CommandSame returns true at all commands. -/
theorem commandSame_any (a : CI) (A1 A2 : Option Addr) (k1 k2 : Nat) (b : CI) (A3 A4 : Option Addr) (k3 k4 : Nat) (w : World) (henv : Env w) (s1 : SlAt encR 2 w A1 a.set) (s2 : ByAt w.heap.size w A2 k2 a.data) (s3 : SlAt encR 2 w A3 b.set) (s4 : ByAt w.heap.size w A4 k4 b.data) :
    Calls Tryz.prog 5 #[ciV a A1 A2 k1 k2, ciV b A3 A4 k3 k4] w fun e w' => e = .returned (.bool true) ∧ Below w.heap.size w w' := by
  cases h : (fewC a && fewC b) with
  | false => exact commandSame_few a A1 A2 k1 k2 b A3 A4 k3 k4 w henv h
  | true =>
    rw [Bool.and_eq_true] at h
    exact commandSame_big a A1 A2 k1 k2 b A3 A4 k3 k4 w henv s1 s2 s3 s4 h.1 h.2
end Go.Proofs.YthfopimgdikpgaaGreatDoor

namespace Go.Proofs.YthfopimgdikpgaaGreatDoor
open Go.RowKit

/-- The fields that a command of this kind may have. -/
def ownC (a : CI) : CI :=
  if a.kind = 5 then { tag := a.tag, kind := a.kind, mbox := a.mbox, set := [], items := 0, mode := 0, silent := false, flags := 0, data := [] }
  else if a.kind = 6 then { tag := a.tag, kind := a.kind, mbox := a.mbox, set := [], items := 0, mode := 0, silent := false, flags := a.flags, data := a.data }
  else if a.kind = 7 then { tag := a.tag, kind := a.kind, mbox := [], set := a.set, items := a.items, mode := 0, silent := false, flags := 0, data := [] }
  else if a.kind = 8 then { tag := a.tag, kind := a.kind, mbox := [], set := a.set, items := 0, mode := a.mode, silent := a.silent, flags := a.flags, data := [] }
  else { tag := a.tag, kind := a.kind, mbox := [], set := [], items := 0, mode := 0, silent := false, flags := 0, data := [] }
/-- The bounds of its kind. -/
def okC (a : CI) : Bool :=
  if a.kind = 7 then decide (0 < a.set.length) && (decide (1 ≤ a.items) && decide (a.items ≤ 31))
  else if a.kind = 8 then decide (0 < a.set.length) && (decide (0 ≤ a.mode) && decide (a.mode ≤ 2))
  else decide (1 ≤ a.kind) && decide (a.kind ≤ 6)
def shortC (a : CI) : Bool := decide (a.mbox.length ≤ 65536) && decide (a.data.length ≤ 65536)
def validC (a : CI) : Bool := okC a && (shortC a && (decide (a.flags ≤ 31) && (allL tagN a.tag && sameC a (ownC a))))

/-- What stands behind the switch. -/
def VRel (w : World) (a : CI) (A1 A2 : Option Addr) (k1 k2 : Nat) (s4 : Value) (wx : World) : Prop :=
  ∃ (o : CI) (A3 A4 : Option Addr) (k3 k4 : Nat), Hid (o = ownC a) ∧ s4 = .bool (okC a) ∧ Hid (SlAt encR 2 w A3 o.set) ∧ Hid (ByAt w.heap.size w A4 k4 o.data) ∧ Hid (Box2 w wx a o A1 A2 k1 k2 A3 A4 k3 k4)

theorem ownC_bd {a : CI} : (ownC a).set.length ≤ a.set.length ∧ (ownC a).data.length ≤ a.data.length := by
  unfold ownC
  split
  · simp
  split
  · simp
  split
  · simp
  split <;> simp
theorem VRel.drew {w wx : World} {a : CI} {A1 A2 : Option Addr} {k1 k2 : Nat} {s4 : Value} (h : VRel w a A1 A2 k1 k2 s4 wx) : VRel w a A1 A2 k1 k2 s4 wx.drew := by
  obtain ⟨o, A3, A4, k3, k4, h1, h2, h3, h4, h5⟩ := h
  exact ⟨o, A3, A4, k3, k4, h1, h2, h3, h4, Lib.hid (h5.out.below (drewN_below7 wx 1))⟩
theorem vrel_mk (w : World) (tag mbox data : List UInt8) (set : List R) (kind items mode flags : Int) (silent : Bool) (A1 A2 : Option Addr) (k1 k2 n : Nat) (hn : set.length = n) (o : CI) (A3 A4 : Option Addr) (k3 k4 : Nat) (q : Bool) (h1 : o = ownC ⟨tag, kind, mbox, set, items, mode, silent, flags, data⟩) (h2 : q = okC ⟨tag, kind, mbox, set, items, mode, silent, flags, data⟩) (h3 : SlAt encR 2 w A3 o.set) (h4 : ByAt w.heap.size w A4 k4 o.data) (m : Nat) (hm : o.set.length = m) :
    VRel w ⟨tag, kind, mbox, set, items, mode, silent, flags, data⟩ A1 A2 k1 k2 (.bool q) ((w.alloc (.cells #[.string ⟨tag.toArray⟩, .int .i64 kind, .string ⟨mbox.toArray⟩, .slice A1 n k1, .int .i64 items, .int .i64 mode, .bool silent, .int .u8 flags, .slice A2 data.length k2] 27)).alloc (.cells #[.string ⟨o.tag.toArray⟩, .int .i64 o.kind, .string ⟨o.mbox.toArray⟩, .slice A3 m k3, .int .i64 o.items, .int .i64 o.mode, .bool o.silent, .int .u8 o.flags, .slice A4 o.data.length k4] 27)) := by
  subst hn hm
  exact ⟨o, A3, A4, k3, k4, Lib.hid h1, by rw [h2], Lib.hid h3, Lib.hid h4, Lib.hid (Box2.start w ⟨tag, kind, mbox, set, items, mode, silent, flags, data⟩ o A1 A2 k1 k2 A3 A4 k3 k4)⟩
theorem okC_7 {tag mbox : List UInt8} {set : List R} {items mode flags : Int} {silent : Bool} {data : List UInt8} : okC ⟨tag, 7, mbox, set, items, mode, silent, flags, data⟩ = (decide (0 < set.length) && (decide (1 ≤ items) && decide (items ≤ 31))) := rfl
theorem okC_8 {tag mbox : List UInt8} {set : List R} {items mode flags : Int} {silent : Bool} {data : List UInt8} : okC ⟨tag, 8, mbox, set, items, mode, silent, flags, data⟩ = (decide (0 < set.length) && (decide (0 ≤ mode) && decide (mode ≤ 2))) := rfl
theorem flags31 {f : Int} (h0 : 0 ≤ f) (h1 : f ≤ 255) : (bits BinOp.andNot IntKind.u8 f 31 == 0) = decide (f ≤ 31) := by
  have h : ∀ x : _root_.Fin 256, (bits BinOp.andNot IntKind.u8 (x.val : Int) 31 == 0) = decide ((x.val : Int) ≤ 31) := by decide +kernel
  have := h ⟨f.toNat, by omega⟩
  rw [show ((⟨f.toNat, by omega⟩ : _root_.Fin 256).val : Int) = f from by simp; omega] at this
  exact this

set_option maxRecDepth 100000 in
set_option maxHeartbeats 2000000 in
theorem valid_any (a : CI) (A1 A2 : Option Addr) (k1 k2 : Nat) (hf : 0 ≤ a.flags ∧ a.flags ≤ 255) (l0 : a.tag.length ≤ 1000000) (l3 : a.mbox.length ≤ 1000000) (l1 : a.set.length ≤ 1000000) (l2 : a.data.length ≤ 1000000) (w : World) (s1 : SlAt encR 2 w A1 a.set) (s2 : ByAt w.heap.size w A2 k2 a.data) :
    Calls Tryz.prog 14 #[ciV a A1 A2 k1 k2] w fun e w' => e = .returned (.bool (validC a)) ∧ Below w.heap.size w w' := by
  obtain ⟨tag, kind, mbox, set, items, mode, silent, flags, data⟩ := a
  obtain ⟨n, hn⟩ : ∃ n, set.length = n := ⟨_, rfl⟩
  unfold ciV
  have S1 : Hid (SlAt encR 2 w A1 set) := Lib.hid s1
  have S2 : Hid (ByAt w.heap.size w A2 k2 data) := Lib.hid s2
  have SN := Lib.hid (show SlAt encR 2 w none ([] : List R) from .inl rfl)
  have BN := Lib.hid (ByAt.nil w.heap.size w none 0)
  have f0 : 0 ≤ flags := hf.1
  have f1 : flags ≤ 255 := hf.2
  have HF := Lib.hid (flags31 f0 f1)
  have HL0 : Hid (tag.length ≤ 1000000) := Lib.hid l0
  have HL1 : Hid (set.length ≤ 1000000) := Lib.hid l1
  have HL2 : Hid (data.length ≤ 1000000) := Lib.hid l2
  have HN := Lib.hid hn
  show Calls _ _ #[.agg #[.string ⟨tag.toArray⟩, .int .i64 kind, .string ⟨mbox.toArray⟩, .slice A1 set.length k1, .int .i64 items, .int .i64 mode, .bool silent, .int .u8 flags, .slice A2 data.length k2]] w _
  rw [hn]
  clear s1 s2 hf l0 l1 l2 l3 hn
  go_enter Tryz.func14, Tryz.ntmps14
  go_upto_block 0 with (fail)
  go_cut [4] (fun s4 wx => VRel w ⟨tag, kind, mbox, set, items, mode, silent, flags, data⟩ A1 A2 k1 k2 s4 wx)
  case first =>
    have VK := Lib.hid (vrel_mk w tag mbox data set kind items mode flags silent A1 A2 k1 k2 n HN.out)
    have VD := Lib.hid (fun o A3 A4 k3 k4 q h1 h2 h3 h4 m hm => (vrel_mk w tag mbox data set kind items mode flags silent A1 A2 k1 k2 n HN.out o A3 A4 k3 k4 q h1 h2 h3 h4 m hm).drew)
    by_cases h1 : kind = 1
    · subst h1
      go_wp2_with fail
      go_meet
      exact VK.out ⟨tag, 1, [], [], 0, 0, false, 0, []⟩ none none 0 0 true (by simp [ownC]) (by simp [okC]) SN.out BN.out 0 rfl
    by_cases h2 : kind = 2
    · subst h2
      go_wp2_with fail
      go_meet
      exact VK.out ⟨tag, 2, [], [], 0, 0, false, 0, []⟩ none none 0 0 true (by simp [ownC]) (by simp [okC]) SN.out BN.out 0 rfl
    by_cases h3 : kind = 3
    · subst h3
      go_wp2_with fail
      go_meet
      exact VK.out ⟨tag, 3, [], [], 0, 0, false, 0, []⟩ none none 0 0 true (by simp [ownC]) (by simp [okC]) SN.out BN.out 0 rfl
    by_cases h4 : kind = 4
    · subst h4
      go_wp2_with fail
      go_meet
      exact VK.out ⟨tag, 4, [], [], 0, 0, false, 0, []⟩ none none 0 0 true (by simp [ownC]) (by simp [okC]) SN.out BN.out 0 rfl
    by_cases h5 : kind = 5
    · subst h5
      go_wp2_with fail
      go_meet
      exact VK.out ⟨tag, 5, mbox, [], 0, 0, false, 0, []⟩ none none 0 0 true (by simp [ownC]) (by simp [okC]) SN.out BN.out 0 rfl
    by_cases h6 : kind = 6
    · subst h6
      go_wp2_with fail
      go_region
      all_goals
        go_wp2_with fail
        go_meet
        exact VD.out ⟨tag, 6, mbox, [], 0, 0, false, flags, data⟩ none A2 0 k2 true (by simp [ownC]) (by simp [okC]) SN.out S2.out 0 rfl
    by_cases h7 : kind = 7
    · subst h7
      by_cases hs : 0 < n
      rotate_left
      · have d0 : decide (0 < n) = false := by simp; omega
        have HS := Lib.hid hs
        clear hs
        go_wp2_with fail
        go_region
        all_goals
          go_wp2_with fail
          go_meet
          exact VD.out ⟨tag, 7, [], set, items, 0, false, 0, []⟩ A1 none k1 0 false (by simp [ownC]) (by rw [okC_7, HN.out]; simp; intro h; have := HS.out; omega) S1.out BN.out n HN.out
      · have d0 : decide (0 < n) = true := by simpa using hs
        by_cases hx : 1 ≤ items
        rotate_left
        · have d1 : decide (1 ≤ items) = false := by simpa using hx
          have HX := Lib.hid hx
          clear hx
          go_wp2_with fail
          go_region
          all_goals
            go_wp2_with fail
            go_meet
            exact VD.out ⟨tag, 7, [], set, items, 0, false, 0, []⟩ A1 none k1 0 false (by simp [ownC]) (by rw [okC_7, HN.out]; simp; intro _ h; have := HX.out; omega) S1.out BN.out n HN.out
        · have d1 : decide (1 ≤ items) = true := by simpa using hx
          by_cases hy : items ≤ 31
          rotate_left
          · have d2 : decide (items ≤ 31) = false := by simpa using hy
            have HY := Lib.hid hy
            clear hy
            go_wp2_with fail
            go_region
            all_goals
              go_wp2_with fail
              go_meet
              exact VD.out ⟨tag, 7, [], set, items, 0, false, 0, []⟩ A1 none k1 0 false (by simp [ownC]) (by rw [okC_7, HN.out]; simp; intro _ _; have := HY.out; omega) S1.out BN.out n HN.out
          · have d2 : decide (items ≤ 31) = true := by simpa using hy
            go_wp2_with fail
            go_region
            all_goals
              go_wp2_with fail
              go_meet
              exact VD.out ⟨tag, 7, [], set, items, 0, false, 0, []⟩ A1 none k1 0 true (by simp [ownC]) (by rw [okC_7, HN.out]; simp; exact ⟨hs, hx, hy⟩) S1.out BN.out n HN.out
    by_cases h8 : kind = 8
    · subst h8
      by_cases hs : 0 < n
      rotate_left
      · have d0 : decide (0 < n) = false := by simp; omega
        have HS := Lib.hid hs
        clear hs
        go_wp2_with fail
        go_region
        all_goals
          go_wp2_with fail
          go_meet
          exact VD.out ⟨tag, 8, [], set, 0, mode, silent, flags, []⟩ A1 none k1 0 false (by simp [ownC]) (by rw [okC_8, HN.out]; simp; intro h; have := HS.out; omega) S1.out BN.out n HN.out
      · have d0 : decide (0 < n) = true := by simpa using hs
        by_cases hx : 0 ≤ mode
        rotate_left
        · have d1 : decide (0 ≤ mode) = false := by simpa using hx
          have HX := Lib.hid hx
          clear hx
          go_wp2_with fail
          go_region
          all_goals
            go_wp2_with fail
            go_meet
            exact VD.out ⟨tag, 8, [], set, 0, mode, silent, flags, []⟩ A1 none k1 0 false (by simp [ownC]) (by rw [okC_8, HN.out]; simp; intro _ h; have := HX.out; omega) S1.out BN.out n HN.out
        · have d1 : decide (0 ≤ mode) = true := by simpa using hx
          by_cases hy : mode ≤ 2
          rotate_left
          · have d2 : decide (mode ≤ 2) = false := by simpa using hy
            have HY := Lib.hid hy
            clear hy
            go_wp2_with fail
            go_region
            all_goals
              go_wp2_with fail
              go_meet
              exact VD.out ⟨tag, 8, [], set, 0, mode, silent, flags, []⟩ A1 none k1 0 false (by simp [ownC]) (by rw [okC_8, HN.out]; simp; intro _ _; have := HY.out; omega) S1.out BN.out n HN.out
          · have d2 : decide (mode ≤ 2) = true := by simpa using hy
            go_wp2_with fail
            go_region
            all_goals
              go_wp2_with fail
              go_meet
              exact VD.out ⟨tag, 8, [], set, 0, mode, silent, flags, []⟩ A1 none k1 0 true (by simp [ownC]) (by rw [okC_8, HN.out]; simp; exact ⟨hs, hx, hy⟩) S1.out BN.out n HN.out
    have e1 : (kind == 1) = false := by simpa using h1
    have e2 : (kind == 2) = false := by simpa using h2
    have e3 : (kind == 3) = false := by simpa using h3
    have e4 : (kind == 4) = false := by simpa using h4
    have e5 : (kind == 5) = false := by simpa using h5
    have e6 : (kind == 6) = false := by simpa using h6
    have e7 : (kind == 7) = false := by simpa using h7
    have e8 : (kind == 8) = false := by simpa using h8
    have HK : Hid (¬ (1 ≤ kind ∧ kind ≤ 8)) := Lib.hid (by omega)
    go_wp2_with fail
    go_meet
    exact VK.out ⟨tag, kind, [], [], 0, 0, false, 0, []⟩ none none 0 0 false (by simp [ownC, h5, h6, h7, h8]) (by simp [okC, h7, h8]; have := HK.out; omega) SN.out BN.out 0 rfl
  case rest =>
    obtain ⟨o, A3, A4, k3, k4, ho, rfl, hs3, hs4, hbx⟩ := hcut
    clear SN BN
    have OB := ownC_bd (a := ⟨tag, kind, mbox, set, items, mode, silent, flags, data⟩)
    rw [← ho.out] at OB
    have OB := Lib.hid OB
    have HX : Hid (wc.heap[w.heap.size]? = some (.cells #[.string ⟨tag.toArray⟩, .int .i64 kind, .string ⟨mbox.toArray⟩, .slice A1 set.length k1, .int .i64 items, .int .i64 mode, .bool silent, .int .u8 flags, .slice A2 data.length k2] 27 (0, 0))) := Lib.hid hbx.out.1
    have HY := Lib.hid hbx.out.2.1
    have HB : Hid (Below w.heap.size w wc) := Lib.hid hbx.out.2.2.1
    have HZ : Hid (w.heap.size + 2 ≤ wc.heap.size) := Lib.hid hbx.out.2.2.2
    have AT : Hid (∀ W, Calls Tryz.prog 31 #[.string ⟨tag.toArray⟩, .func (Fn.func 32) #[] #[]] W fun e w' => e = .returned (.bool (allL tagN tag)) ∧ Below W.heap.size W w') := Lib.hid (fun W => all_any _ _ (fun n w h => tag_any n w h) enters_Tag ⟨tag.toArray⟩ (by have := HL0.out; show tag.toArray.size ≤ _; simp; omega) W)
    have PS : Hid (∀ W, Below w.heap.size w W → Calls Tryz.prog 16 #[.agg #[.string ⟨tag.toArray⟩, .int .i64 kind, .string ⟨mbox.toArray⟩, .slice A1 set.length k1, .int .i64 items, .int .i64 mode, .bool silent, .int .u8 flags, .slice A2 data.length k2], .agg #[.string ⟨o.tag.toArray⟩, .int .i64 o.kind, .string ⟨o.mbox.toArray⟩, .slice A3 o.set.length k3, .int .i64 o.items, .int .i64 o.mode, .bool o.silent, .int .u8 o.flags, .slice A4 o.data.length k4]] W fun e w' => e = .returned (.bool (sameC ⟨tag, kind, mbox, set, items, mode, silent, flags, data⟩ o)) ∧ Below W.heap.size W w') :=
      Lib.hid (fun W hW => psame_any ⟨tag, kind, mbox, set, items, mode, silent, flags, data⟩ o A1 A2 A3 A4 _ k1 _ k2 _ k3 _ k4 rfl rfl rfl rfl HL1.out HL2.out (Nat.le_trans OB.out.1 HL1.out) (Nat.le_trans OB.out.2 HL2.out) W (S1.out.below hW) ((S2.out.below hW).mono hW.size) (hs3.out.below hW) ((hs4.out.below hW).mono hW.size))
    have HR := Lib.hid (show validC ⟨tag, kind, mbox, set, items, mode, silent, flags, data⟩ = (okC ⟨tag, kind, mbox, set, items, mode, silent, flags, data⟩ && ((decide (mbox.length ≤ 65536) && decide (data.length ≤ 65536)) && (decide (flags ≤ 31) && (allL tagN tag && sameC ⟨tag, kind, mbox, set, items, mode, silent, flags, data⟩ o)))) by rw [ho.out]; rfl)
    have g1 : decide ((mbox.length : Int) ≤ 65536) = decide (mbox.length ≤ 65536) := by rw [decide_eq_decide]; omega
    have g2 : decide ((data.length : Int) ≤ 65536) = decide (data.length ≤ 65536) := by rw [decide_eq_decide]; omega
    have g3 := HF.out
    have sz0 : (ByteArray.mk mbox.toArray).size = mbox.length := by show mbox.toArray.size = _; simp
    clear HF S1 S2 hs3 hs4 ho hbx OB HN HL0 HL1 HL2
    generalize okC ⟨tag, kind, mbox, set, items, mode, silent, flags, data⟩ = q at *
    generalize sameC ⟨tag, kind, mbox, set, items, mode, silent, flags, data⟩ o = d5 at *
    generalize allL tagN tag = d4 at *
    generalize decide (mbox.length ≤ 65536) = d1 at *
    generalize decide (data.length ≤ 65536) = d2 at *
    generalize decide (flags ≤ 31) = d3 at *
    obtain ⟨x0, x1, x2, x3, x4, x5, x6, x7, x8⟩ := cells9 HX.out
    cases d1
    · cases q
      all_goals
        go_wp2_with fail
        go_ret
        exact ⟨ret_bool (by rw [HR.out]; simp), HB.out⟩
    cases d2
    · cases q
      all_goals
        go_wp2_with fail
        go_ret
        exact ⟨ret_bool (by rw [HR.out]; simp), HB.out⟩
    cases q
    · go_wp2_with fail
      go_ret
      exact ⟨ret_bool (by rw [HR.out]; simp), HB.out⟩
    cases d3
    · go_wp2_with fail
      go_ret
      exact ⟨ret_bool (by rw [HR.out]; simp), HB.out⟩
    go_wp2_with fail
    refine (AT.out _).mono ?_
    rintro e w5 ⟨rfl, hb5⟩
    have HB5 := Lib.hid (below_next HB.out hb5)
    cases d4
    · clear x0 x1 x2 x3 x4 x5 x6 x7 x8 hb5
      go_wp2_with fail
      go_ret
      exact ⟨ret_bool (by rw [HR.out]; simp), HB5.out⟩
    clear x0 x1 x2 x3 x4 x5 x6 x7 x8
    obtain ⟨x0, x1, x2, x3, x4, x5, x6, x7, x8⟩ := cells9 ((hb5.block _ (by have := HZ.out; omega)).trans HX.out)
    obtain ⟨y0, y1, y2, y3, y4, y5, y6, y7, y8⟩ := cells9 ((hb5.block _ (by have := HZ.out; omega)).trans HY.out)
    clear hb5
    go_wp2_with fail
    refine (PS.out _ HB5.out).mono ?_
    rintro e w6 ⟨rfl, hb6⟩
    go_wp2_with fail
    go_ret
    exact ⟨ret_bool (by rw [HR.out]; simp), below_next HB5.out hb6⟩
end Go.Proofs.YthfopimgdikpgaaGreatDoor

namespace Go.Proofs.YthfopimgdikpgaaGreatDoor
open Go.RowKit

/-- The bounds of its kind, as the reference asks for them. -/
def okR (a : CI) : Bool :=
  if a.kind = 5 then decide (a.mbox.length ≤ 65536)
  else if a.kind = 6 then decide (a.mbox.length ≤ 65536) && (decide (a.data.length ≤ 65536) && decide (a.flags ≤ 31))
  else if a.kind = 7 then decide (0 < a.set.length) && (decide (1 ≤ a.items) && decide (a.items ≤ 31))
  else if a.kind = 8 then decide (0 < a.set.length) && (decide (0 ≤ a.mode) && (decide (a.mode ≤ 2) && decide (a.flags ≤ 31)))
  else true
def validR (a : CI) : Bool := allL tagN a.tag && ((decide (1 ≤ a.kind) && decide (a.kind ≤ 8)) && (okR a && sameC a (ownC a)))
def VRelR (w : World) (a : CI) (A1 A2 : Option Addr) (k1 k2 : Nat) (s4 : Value) (wx : World) : Prop :=
  ∃ (o : CI) (A3 A4 : Option Addr) (k3 k4 : Nat), Hid (o = ownC a) ∧ s4 = .bool (okR a) ∧ Hid (SlAt encR 2 w A3 o.set) ∧ Hid (ByAt w.heap.size w A4 k4 o.data) ∧ Hid (Box2 w wx a o A1 A2 k1 k2 A3 A4 k3 k4)
theorem vrelR_mk (w : World) (tag mbox data : List UInt8) (set : List R) (kind items mode flags : Int) (silent : Bool) (A1 A2 : Option Addr) (k1 k2 n : Nat) (hn : set.length = n) (o : CI) (A3 A4 : Option Addr) (k3 k4 : Nat) (q : Bool) (h1 : o = ownC ⟨tag, kind, mbox, set, items, mode, silent, flags, data⟩) (h2 : q = okR ⟨tag, kind, mbox, set, items, mode, silent, flags, data⟩) (h3 : SlAt encR 2 w A3 o.set) (h4 : ByAt w.heap.size w A4 k4 o.data) (m : Nat) (hm : o.set.length = m) :
    VRelR w ⟨tag, kind, mbox, set, items, mode, silent, flags, data⟩ A1 A2 k1 k2 (.bool q) ((w.alloc (.cells #[.string ⟨tag.toArray⟩, .int .i64 kind, .string ⟨mbox.toArray⟩, .slice A1 n k1, .int .i64 items, .int .i64 mode, .bool silent, .int .u8 flags, .slice A2 data.length k2] 27)).alloc (.cells #[.string ⟨o.tag.toArray⟩, .int .i64 o.kind, .string ⟨o.mbox.toArray⟩, .slice A3 m k3, .int .i64 o.items, .int .i64 o.mode, .bool o.silent, .int .u8 o.flags, .slice A4 o.data.length k4] 27)) := by
  subst hn hm
  exact ⟨o, A3, A4, k3, k4, Lib.hid h1, by rw [h2], Lib.hid h3, Lib.hid h4, Lib.hid (Box2.start w ⟨tag, kind, mbox, set, items, mode, silent, flags, data⟩ o A1 A2 k1 k2 A3 A4 k3 k4)⟩
theorem okR_5 {tag mbox : List UInt8} {set : List R} {items mode flags : Int} {silent : Bool} {data : List UInt8} : okR ⟨tag, 5, mbox, set, items, mode, silent, flags, data⟩ = decide (mbox.length ≤ 65536) := rfl
theorem okR_6 {tag mbox : List UInt8} {set : List R} {items mode flags : Int} {silent : Bool} {data : List UInt8} : okR ⟨tag, 6, mbox, set, items, mode, silent, flags, data⟩ = (decide (mbox.length ≤ 65536) && (decide (data.length ≤ 65536) && decide (flags ≤ 31))) := rfl
theorem okR_7 {tag mbox : List UInt8} {set : List R} {items mode flags : Int} {silent : Bool} {data : List UInt8} : okR ⟨tag, 7, mbox, set, items, mode, silent, flags, data⟩ = (decide (0 < set.length) && (decide (1 ≤ items) && decide (items ≤ 31))) := rfl
theorem okR_8 {tag mbox : List UInt8} {set : List R} {items mode flags : Int} {silent : Bool} {data : List UInt8} : okR ⟨tag, 8, mbox, set, items, mode, silent, flags, data⟩ = (decide (0 < set.length) && (decide (0 ≤ mode) && (decide (mode ≤ 2) && decide (flags ≤ 31)))) := rfl

/-- Both ask the same. -/
theorem validR_eq (a : CI) : validR a = validC a := by
  obtain ⟨tag, kind, mbox, set, items, mode, silent, flags, data⟩ := a
  unfold validR validC
  rw [Bool.eq_iff_iff]
  simp only [Bool.and_eq_true, decide_eq_true_eq, shortC]
  by_cases hk : 1 ≤ kind ∧ kind ≤ 8
  rotate_left
  · have h7 : ¬ kind = 7 := by omega
    have h8 : ¬ kind = 8 := by omega
    simp only [okC, h7, h8, if_false, Bool.and_eq_true, decide_eq_true_eq]
    constructor
    · rintro ⟨_, h, _⟩; exact absurd h hk
    · rintro ⟨h, _⟩; omega
  · have hc : kind = 1 ∨ kind = 2 ∨ kind = 3 ∨ kind = 4 ∨ kind = 5 ∨ kind = 6 ∨ kind = 7 ∨ kind = 8 := by omega
    rcases hc with rfl | rfl | rfl | rfl | rfl | rfl | rfl | rfl
    all_goals
      simp [okC, okR, ownC, sameC]
      constructor <;> (intro h; simp_all)
theorem refIsTag7_any (s : ByteArray) (hs : s.size ≤ 1000000000) (w : World) :
    Calls Tryz.prog 33 #[.string s] w fun e w' => e = .returned (.bool (allL tagN s.data.toList)) ∧ w = w' := by
  go_enter Tryz.func33, Tryz.ntmps33
  go_wp2_with fail
  go_loop [3] (fun i => ∃ k : Nat, k ≤ s.size ∧ i = .int .i64 k ∧ (s.data.toList.take k).all (fun c => tagN c.toNat) = true) (fun i => s.size - (intOf i).toNat)
  case atStart => exact ⟨0, Nat.zero_le _, rfl, rfl⟩
  case round =>
    obtain ⟨k, hk, rfl, ha⟩ := hrel
    have HA := Lib.hid ha
    clear ha
    by_cases hlt : k < s.size
    · have hn : s[k].toNat ≤ 255 := by have := s[k].toNat_lt; omega
      have C := Lib.hid (refTag_any s[k].toNat w hn)
      cases hg : tagN s[k].toNat with
      | true =>
        have HG := Lib.hid hg
        rw [hg] at C
        clear hg
        go_wp2_with fail
        refine C.out.mono ?_
        rintro e w' ⟨rfl, rfl⟩
        go_wp2
        go_round
        case rel => exact ⟨k + 1, by omega, by go_num, by rw [take_snocB s k hlt, List.all_append, HA.out, List.all_cons, HG.out]; rfl⟩
        case measure => simp [intOf]; omega
      | false =>
        have HG := Lib.hid (all_false tagN s k hlt hg)
        rw [hg] at C
        clear hg
        go_wp2_with fail
        refine C.out.mono ?_
        rintro e w' ⟨rfl, rfl⟩
        go_wp2
        go_ret
        exact ⟨ret_bool HG.out.symm, rfl⟩
    · obtain rfl : k = s.size := by omega
      have HG := Lib.hid (all_done tagN s HA.out)
      go_wp2_with fail
      go_ret
      exact ⟨ret_bool HG.out.symm, rfl⟩

set_option maxRecDepth 100000 in
set_option maxHeartbeats 2000000 in
theorem rvalid_any (a : CI) (A1 A2 : Option Addr) (k1 k2 : Nat) (l0 : a.tag.length ≤ 1000000) (l3 : a.mbox.length ≤ 1000000) (l1 : a.set.length ≤ 1000000) (l2 : a.data.length ≤ 1000000) (w : World) (s1 : SlAt encR 2 w A1 a.set) (s2 : ByAt w.heap.size w A2 k2 a.data) :
    Calls Tryz.prog 15 #[ciV a A1 A2 k1 k2] w fun e w' => e = .returned (.bool (validR a)) ∧ Below w.heap.size w w' := by
  obtain ⟨tag, kind, mbox, set, items, mode, silent, flags, data⟩ := a
  obtain ⟨n, hn⟩ : ∃ n, set.length = n := ⟨_, rfl⟩
  unfold ciV
  have S1 : Hid (SlAt encR 2 w A1 set) := Lib.hid s1
  have S2 : Hid (ByAt w.heap.size w A2 k2 data) := Lib.hid s2
  have SN := Lib.hid (show SlAt encR 2 w none ([] : List R) from .inl rfl)
  have BN := Lib.hid (ByAt.nil w.heap.size w none 0)
  have HL1 : Hid (set.length ≤ 1000000) := Lib.hid l1
  have HL2 : Hid (data.length ≤ 1000000) := Lib.hid l2
  have HN := Lib.hid hn
  have HB0 := Lib.hid (below_al w (.cells #[.string ⟨tag.toArray⟩, .int .i64 kind, .string ⟨mbox.toArray⟩, .slice A1 n k1, .int .i64 items, .int .i64 mode, .bool silent, .int .u8 flags, .slice A2 data.length k2] 27))
  have AT : Hid (∀ W, Calls Tryz.prog 33 #[.string ⟨tag.toArray⟩] W fun e w' => e = .returned (.bool (allL tagN tag)) ∧ W = w') := Lib.hid (fun W => refIsTag7_any ⟨tag.toArray⟩ (by have : tag.length ≤ 1000000 := l0; show tag.toArray.size ≤ _; simp; omega) W)
  have HR := Lib.hid (show validR ⟨tag, kind, mbox, set, items, mode, silent, flags, data⟩ = (allL tagN tag && ((decide (1 ≤ kind) && decide (kind ≤ 8)) && (okR ⟨tag, kind, mbox, set, items, mode, silent, flags, data⟩ && sameC ⟨tag, kind, mbox, set, items, mode, silent, flags, data⟩ (ownC ⟨tag, kind, mbox, set, items, mode, silent, flags, data⟩)))) from rfl)
  have g1 : decide ((mbox.length : Int) ≤ 65536) = decide (mbox.length ≤ 65536) := by rw [decide_eq_decide]; omega
  have g2 : decide ((data.length : Int) ≤ 65536) = decide (data.length ≤ 65536) := by rw [decide_eq_decide]; omega
  have sz0 : (ByteArray.mk mbox.toArray).size = mbox.length := by show mbox.toArray.size = _; simp
  show Calls _ _ #[.agg #[.string ⟨tag.toArray⟩, .int .i64 kind, .string ⟨mbox.toArray⟩, .slice A1 set.length k1, .int .i64 items, .int .i64 mode, .bool silent, .int .u8 flags, .slice A2 data.length k2]] w _
  rw [hn]
  clear s1 s2 l0 l1 l2 l3 hn
  generalize hd1 : decide (mbox.length ≤ 65536) = d1 at g1
  generalize hd2 : decide (data.length ≤ 65536) = d2 at g2
  have HD1 := Lib.hid hd1
  have HD2 := Lib.hid hd2
  clear hd1 hd2
  generalize allL tagN tag = d4 at *
  cases d4
  · go_enter Tryz.func15, Tryz.ntmps15
    go_wp2_with fail
    refine (AT.out _).mono ?_
    rintro e w3 ⟨rfl, rfl⟩
    go_wp2_with fail
    go_ret
    exact ⟨ret_bool (by rw [HR.out]; simp), HB0.out⟩
  by_cases hk1 : 1 ≤ kind
  rotate_left
  · have e1 : decide (kind < 1) = true := by simp; omega
    have HK := Lib.hid (show decide (1 ≤ kind) = false by simpa using hk1)
    clear hk1
    go_enter Tryz.func15, Tryz.ntmps15
    go_wp2_with fail
    refine (AT.out _).mono ?_
    rintro e w3 ⟨rfl, rfl⟩
    go_wp2_with fail
    go_ret
    exact ⟨ret_bool (by rw [HR.out, HK.out]; simp), HB0.out⟩
  by_cases hk8 : kind ≤ 8
  rotate_left
  · have e1 : decide (kind < 1) = false := by simp; omega
    have e2 : decide (8 < kind) = true := by simp; omega
    have HK := Lib.hid (show decide (kind ≤ 8) = false by simpa using hk8)
    clear hk1 hk8
    go_enter Tryz.func15, Tryz.ntmps15
    go_wp2_with fail
    refine (AT.out _).mono ?_
    rintro e w3 ⟨rfl, rfl⟩
    go_wp2_with fail
    go_ret
    exact ⟨ret_bool (by rw [HR.out, HK.out]; simp), HB0.out⟩
  have e1 : decide (kind < 1) = false := by simp; omega
  have e2 : decide (8 < kind) = false := by simp; omega
  have HK := Lib.hid (show decide (1 ≤ kind) = true by simpa using hk1)
  have HK8 := Lib.hid (show decide (kind ≤ 8) = true by simpa using hk8)
  have HKK : Hid (kind = 1 ∨ kind = 2 ∨ kind = 3 ∨ kind = 4 ∨ kind = 5 ∨ kind = 6 ∨ kind = 7 ∨ kind = 8) := Lib.hid (by omega)
  clear hk1 hk8
  go_enter Tryz.func15, Tryz.ntmps15
  go_wp2_with fail
  refine (AT.out _).mono ?_
  rintro e w3 ⟨rfl, rfl⟩
  go_upto_block 0 with (fail)
  clear e1 e2 AT HB0
  go_cut [4] (fun s4 wx => VRelR w ⟨tag, kind, mbox, set, items, mode, silent, flags, data⟩ A1 A2 k1 k2 s4 wx)
  case first =>
    have VK := Lib.hid (vrelR_mk w tag mbox data set kind items mode flags silent A1 A2 k1 k2 n HN.out)
    rcases HKK.out with rfl | rfl | rfl | rfl | rfl | rfl | rfl | rfl
    · go_wp2_with fail
      go_meet
      exact VK.out ⟨tag, 1, [], [], 0, 0, false, 0, []⟩ none none 0 0 true (by simp [ownC]) (by simp [okR]) SN.out BN.out 0 rfl
    · go_wp2_with fail
      go_meet
      exact VK.out ⟨tag, 2, [], [], 0, 0, false, 0, []⟩ none none 0 0 true (by simp [ownC]) (by simp [okR]) SN.out BN.out 0 rfl
    · go_wp2_with fail
      go_meet
      exact VK.out ⟨tag, 3, [], [], 0, 0, false, 0, []⟩ none none 0 0 true (by simp [ownC]) (by simp [okR]) SN.out BN.out 0 rfl
    · go_wp2_with fail
      go_meet
      exact VK.out ⟨tag, 4, [], [], 0, 0, false, 0, []⟩ none none 0 0 true (by simp [ownC]) (by simp [okR]) SN.out BN.out 0 rfl
    · go_wp2_with fail
      go_meet
      exact VK.out ⟨tag, 5, mbox, [], 0, 0, false, 0, []⟩ none none 0 0 d1 (by simp [ownC]) (by rw [okR_5, HD1.out]) SN.out BN.out 0 rfl
    · cases d1
      · go_wp2_with fail
        go_meet
        exact VK.out ⟨tag, 6, mbox, [], 0, 0, false, flags, data⟩ none A2 0 k2 false (by simp [ownC]) (by rw [okR_6, HD1.out]; simp) SN.out S2.out 0 rfl
      cases d2
      · go_wp2_with fail
        go_meet
        exact VK.out ⟨tag, 6, mbox, [], 0, 0, false, flags, data⟩ none A2 0 k2 false (by simp [ownC]) (by rw [okR_6, HD1.out, HD2.out]; simp) SN.out S2.out 0 rfl
      by_cases hf : flags ≤ 31
      rotate_left
      · have c0 : decide (flags ≤ 31) = false := by simpa using hf
        have HC := Lib.hid c0
        clear hf
        go_wp2_with fail
        go_meet
        exact VK.out ⟨tag, 6, mbox, [], 0, 0, false, flags, data⟩ none A2 0 k2 false (by simp [ownC]) (by rw [okR_6, HD1.out, HD2.out, HC.out]; simp) SN.out S2.out 0 rfl
      · have c0 : decide (flags ≤ 31) = true := by simpa using hf
        have HC := Lib.hid c0
        go_wp2_with fail
        go_meet
        exact VK.out ⟨tag, 6, mbox, [], 0, 0, false, flags, data⟩ none A2 0 k2 true (by simp [ownC]) (by rw [okR_6, HD1.out, HD2.out, HC.out]; simp) SN.out S2.out 0 rfl
    · by_cases hs : 0 < n
      rotate_left
      · have c0 : decide (0 < n) = false := by simp; omega
        have HC := Lib.hid c0
        clear hs
        go_wp2_with fail
        go_meet
        exact VK.out ⟨tag, 7, [], set, items, 0, false, 0, []⟩ A1 none k1 0 false (by simp [ownC]) (by rw [okR_7, HN.out, HC.out]; simp) S1.out BN.out n HN.out
      have c0 : decide (0 < n) = true := by simpa using hs
      have HC0 := Lib.hid c0
      by_cases hx1 : 1 ≤ items
      rotate_left
      · have c1 : decide (1 ≤ items) = false := by simpa using hx1
        have HC := Lib.hid c1
        clear hx1
        go_wp2_with fail
        go_meet
        exact VK.out ⟨tag, 7, [], set, items, 0, false, 0, []⟩ A1 none k1 0 false (by simp [ownC]) (by rw [okR_7, HN.out, HC0.out, HC.out]; simp) S1.out BN.out n HN.out
      have c1 : decide (1 ≤ items) = true := by simpa using hx1
      have HC1 := Lib.hid c1
      by_cases hx2 : items ≤ 31
      rotate_left
      · have c2 : decide (items ≤ 31) = false := by simpa using hx2
        have HC := Lib.hid c2
        clear hx2
        go_wp2_with fail
        go_meet
        exact VK.out ⟨tag, 7, [], set, items, 0, false, 0, []⟩ A1 none k1 0 false (by simp [ownC]) (by rw [okR_7, HN.out, HC0.out, HC1.out, HC.out]; simp) S1.out BN.out n HN.out
      have c2 : decide (items ≤ 31) = true := by simpa using hx2
      have HC2 := Lib.hid c2
      go_wp2_with fail
      go_meet
      exact VK.out ⟨tag, 7, [], set, items, 0, false, 0, []⟩ A1 none k1 0 true (by simp [ownC]) (by rw [okR_7, HN.out, HC0.out, HC1.out, HC2.out]; simp) S1.out BN.out n HN.out
    · by_cases hs : 0 < n
      rotate_left
      · have c0 : decide (0 < n) = false := by simp; omega
        have HC := Lib.hid c0
        clear hs
        go_wp2_with fail
        go_meet
        exact VK.out ⟨tag, 8, [], set, 0, mode, silent, flags, []⟩ A1 none k1 0 false (by simp [ownC]) (by rw [okR_8, HN.out, HC.out]; simp) S1.out BN.out n HN.out
      have c0 : decide (0 < n) = true := by simpa using hs
      have HC0 := Lib.hid c0
      by_cases hx1 : 0 ≤ mode
      rotate_left
      · have c1 : decide (0 ≤ mode) = false := by simpa using hx1
        have HC := Lib.hid c1
        clear hx1
        go_wp2_with fail
        go_meet
        exact VK.out ⟨tag, 8, [], set, 0, mode, silent, flags, []⟩ A1 none k1 0 false (by simp [ownC]) (by rw [okR_8, HN.out, HC0.out, HC.out]; simp) S1.out BN.out n HN.out
      have c1 : decide (0 ≤ mode) = true := by simpa using hx1
      have HC1 := Lib.hid c1
      by_cases hx2 : mode ≤ 2
      rotate_left
      · have c2 : decide (mode ≤ 2) = false := by simpa using hx2
        have HC := Lib.hid c2
        clear hx2
        go_wp2_with fail
        go_meet
        exact VK.out ⟨tag, 8, [], set, 0, mode, silent, flags, []⟩ A1 none k1 0 false (by simp [ownC]) (by rw [okR_8, HN.out, HC0.out, HC1.out, HC.out]; simp) S1.out BN.out n HN.out
      have c2 : decide (mode ≤ 2) = true := by simpa using hx2
      have HC2 := Lib.hid c2
      by_cases hx3 : flags ≤ 31
      rotate_left
      · have c3 : decide (flags ≤ 31) = false := by simpa using hx3
        have HC := Lib.hid c3
        clear hx3
        go_wp2_with fail
        go_meet
        exact VK.out ⟨tag, 8, [], set, 0, mode, silent, flags, []⟩ A1 none k1 0 false (by simp [ownC]) (by rw [okR_8, HN.out, HC0.out, HC1.out, HC2.out, HC.out]; simp) S1.out BN.out n HN.out
      have c3 : decide (flags ≤ 31) = true := by simpa using hx3
      have HC3 := Lib.hid c3
      go_wp2_with fail
      go_meet
      exact VK.out ⟨tag, 8, [], set, 0, mode, silent, flags, []⟩ A1 none k1 0 true (by simp [ownC]) (by rw [okR_8, HN.out, HC0.out, HC1.out, HC2.out, HC3.out]; simp) S1.out BN.out n HN.out
  case rest =>
    obtain ⟨o, A3, A4, k3, k4, ho, rfl, hs3, hs4, hbx⟩ := hcut
    clear SN BN g1 g2 sz0 HD1 HD2 HKK
    have OB := ownC_bd (a := ⟨tag, kind, mbox, set, items, mode, silent, flags, data⟩)
    rw [← ho.out] at OB
    have OB := Lib.hid OB
    have HX : Hid (wc.heap[w.heap.size]? = some (.cells #[.string ⟨tag.toArray⟩, .int .i64 kind, .string ⟨mbox.toArray⟩, .slice A1 set.length k1, .int .i64 items, .int .i64 mode, .bool silent, .int .u8 flags, .slice A2 data.length k2] 27 (0, 0))) := Lib.hid hbx.out.1
    have HY := Lib.hid hbx.out.2.1
    have HB : Hid (Below w.heap.size w wc) := Lib.hid hbx.out.2.2.1
    have RS : Hid (∀ W, Below w.heap.size w W → Calls Tryz.prog 12 #[.agg #[.string ⟨tag.toArray⟩, .int .i64 kind, .string ⟨mbox.toArray⟩, .slice A1 set.length k1, .int .i64 items, .int .i64 mode, .bool silent, .int .u8 flags, .slice A2 data.length k2], .agg #[.string ⟨o.tag.toArray⟩, .int .i64 o.kind, .string ⟨o.mbox.toArray⟩, .slice A3 o.set.length k3, .int .i64 o.items, .int .i64 o.mode, .bool o.silent, .int .u8 o.flags, .slice A4 o.data.length k4]] W fun e w' => e = .returned (.bool (sameC ⟨tag, kind, mbox, set, items, mode, silent, flags, data⟩ o)) ∧ Below W.heap.size W w') :=
      Lib.hid (fun W hW => rsame_any ⟨tag, kind, mbox, set, items, mode, silent, flags, data⟩ o A1 A2 A3 A4 _ k1 _ k2 _ k3 _ k4 rfl rfl rfl rfl HL1.out HL2.out (Nat.le_trans OB.out.1 HL1.out) (Nat.le_trans OB.out.2 HL2.out) W (S1.out.below hW) ((S2.out.below hW).mono hW.size) (hs3.out.below hW) ((hs4.out.below hW).mono hW.size))
    have HR2 := Lib.hid (show validR ⟨tag, kind, mbox, set, items, mode, silent, flags, data⟩ = (okR ⟨tag, kind, mbox, set, items, mode, silent, flags, data⟩ && sameC ⟨tag, kind, mbox, set, items, mode, silent, flags, data⟩ o) by rw [HR.out, HK.out, HK8.out, ho.out]; rfl)
    clear S1 S2 hs3 hs4 ho hbx OB HN HL1 HL2 HR HK HK8
    generalize okR ⟨tag, kind, mbox, set, items, mode, silent, flags, data⟩ = q at *
    generalize sameC ⟨tag, kind, mbox, set, items, mode, silent, flags, data⟩ o = d5 at *
    cases q
    · go_wp2_with fail
      go_ret
      exact ⟨ret_bool (by rw [HR2.out]; simp), HB.out⟩
    obtain ⟨x0, x1, x2, x3, x4, x5, x6, x7, x8⟩ := cells9 HX.out
    obtain ⟨y0, y1, y2, y3, y4, y5, y6, y7, y8⟩ := cells9 HY.out
    go_wp2_with fail
    refine (RS.out _ HB.out).mono ?_
    rintro e w6 ⟨rfl, hb6⟩
    go_wp2_with fail
    go_ret
    exact ⟨ret_bool (by rw [HR2.out]; simp), below_next HB.out hb6⟩
end Go.Proofs.YthfopimgdikpgaaGreatDoor

namespace Go.Proofs.YthfopimgdikpgaaGreatDoor
open Go.RowKit

/-- A command's fields as Same takes them. -/
def ciOf (c : Cmd) : CI := { tag := c.tag, kind := c.kind, mbox := c.mbox, set := c.set, items := c.items, mode := c.mode, silent := c.silent, flags := c.flags, data := c.data }
theorem sameC_refl (a : CI) : sameC a a = true := by simp [sameC]
/-- Same of the reference, at two commands that read alike. -/
theorem rsame_cmd (c d : Cmd) (A1 A2 A3 A4 : Option Addr) (k1 k2 k3 k4 : Nat) (l1 : c.set.length ≤ 1000000) (l2 : c.data.length ≤ 1000000) (l3 : d.set.length ≤ 1000000) (l4 : d.data.length ≤ 1000000) (h2 : c.data.length ≤ k2) (h4 : d.data.length ≤ k4) (w : World) (s1 : SlAt encR 2 w A1 c.set) (s2 : SlAt encB 1 w A2 c.data) (s3 : SlAt encR 2 w A3 d.set) (s4 : SlAt encB 1 w A4 d.data) :
    Calls Tryz.prog 12 #[.agg (cmdA c (.slice A1 c.set.length k1) (.slice A2 c.data.length k2)), .agg (cmdA d (.slice A3 d.set.length k3) (.slice A4 d.data.length k4))] w fun e w' => e = .returned (.bool (sameC (ciOf c) (ciOf d))) ∧ Below w.heap.size w w' :=
  rsame_any (ciOf c) (ciOf d) A1 A2 A3 A4 _ k1 _ k2 _ k3 _ k4 rfl rfl rfl rfl l1 l2 l3 l4 w s1 (ByAt.of_sl s2 h2) s3 (ByAt.of_sl s4 h4)

/-! What a parsed command may hold. -/
theorem appR_bd {c c' : Cmd} {l : List Tok} (h : appR c l = some c') : c'.set = c.set ∧ ∃ d ∈ l, c'.data = d.text := by
  rcases List.eq_nil_or_concat l with rfl | ⟨m, d, rfl⟩
  · simp [appR] at h
  rw [List.concat_eq_append] at *
  by_cases h6 : d.kind = 6
  rotate_left
  · rw [appR_bad c m d h6] at h; cases h
  rcases List.eq_nil_or_concat m with rfl | ⟨m, s, rfl⟩
  · rw [List.nil_append, appR_one c d h6] at h
    cases h
    exact ⟨rfl, d, by simp, rfl⟩
  rw [List.concat_eq_append] at *
  rw [appR_more c m s d h6] at h
  split at h
  · rw [Option.map_eq_some_iff] at h
    obtain ⟨g, _, rfl⟩ := h
    exact ⟨rfl, d, by simp, rfl⟩
  · cases h
theorem fetR_bd {c c' : Cmd} {l : List Tok} (h : fetR c l = some c') : c'.set = c.set ∧ c'.data = c.data := by
  rw [fetR_is, Option.map_eq_some_iff] at h
  obtain ⟨g, _, rfl⟩ := h
  exact ⟨rfl, rfl⟩
theorem stoR_bd {c c' : Cmd} {l : List Tok} (h : stoR c l = some c') : c'.set = c.set ∧ c'.data = c.data := by
  unfold stoR at h
  split at h
  · split at h
    · simp only [Option.bind_eq_some_iff, Option.map_eq_some_iff] at h
      obtain ⟨mo, _, g, _, rfl⟩ := h
      exact ⟨rfl, rfl⟩
    · cases h
  · cases h
theorem parseP_bd (x : List UInt8) (hx : x.length ≤ 9000) : (parseP x).1.length ≤ 9001 := by
  have h := split7_len 44 x
  unfold parseP
  split
  · simp; omega
  · simp
theorem bodyR_bd {tag : List UInt8} {l : List Tok} {c : Cmd} (h : bodyR tag l = some c) (hl : ∀ t ∈ l, t.text.length ≤ 9000) : c.set.length ≤ 9001 ∧ c.data.length ≤ 9000 := by
  rcases l with _ | ⟨t, r⟩
  · simp [bodyR] at h
  by_cases h4 : t.kind = 4
  rotate_left
  · rw [bodyR_no4 tag h4] at h; cases h
  by_cases h0 : kindL t.text = 0
  · rw [bodyR_zero tag h0] at h; cases h
  by_cases hle : kindL t.text ≤ 4
  · rw [bodyR_low tag h4 h0 hle] at h
    split at h
    · cases h; simp [cmd0]
    · cases h
  have hk : 4 < kindL t.text := by omega
  rcases r with _ | ⟨s, _ | ⟨m, q⟩⟩
  · rw [bodyR_short tag hk (by simp)] at h; cases h
  · rw [bodyR_short tag hk (by simp)] at h; cases h
  by_cases hs : s.kind = 1
  rotate_left
  · rw [bodyR_nos tag hk hs] at h; cases h
  by_cases h6 : kindL t.text ≤ 6
  · rw [bodyR_mbox tag h4 hk h6 hs] at h
    split at h
    · cases h
    split at h
    · split at h
      · cases h; simp [cmd0]
      · cases h
    rcases q with _ | ⟨z, d⟩
    · cases h
    · replace h : (if z.kind = 1 then appR { cmd0 tag with kind := kindL t.text, mbox := m.text } d else none) = some c := h
      split at h
      · obtain ⟨e1, x, hx, e2⟩ := appR_bd h
        rw [e1, e2]
        exact ⟨by simp [cmd0], hl x (by simp [hx])⟩
      · cases h
  · rw [bodyR_set tag h4 (by omega) hs] at h
    have hp := parseP_bd m.text (hl m (by simp))
    split at h
    · cases h
    rcases q with _ | ⟨z, d⟩
    · cases h
    · replace h : (if z.kind = 1 ∧ d ≠ [] then (if kindL t.text = 7 then fetR { cmd0 tag with kind := kindL t.text, set := (parseP m.text).1 } d else stoR { cmd0 tag with kind := kindL t.text, set := (parseP m.text).1 } d) else none) = some c := h
      split at h
      · split at h
        · obtain ⟨e1, e2⟩ := fetR_bd h
          rw [e1, e2]
          exact ⟨hp, by simp [cmd0]⟩
        · obtain ⟨e1, e2⟩ := stoR_bd h
          rw [e1, e2]
          exact ⟨hp, by simp [cmd0]⟩
      · cases h
theorem IsCmd.bd {l : List UInt8} {c : Cmd} {b : Bool} (h : IsCmd l c b) (_ : l.length ≤ 9000) : c.set.length ≤ 9001 ∧ c.data.length ≤ 9000 := by
  cases h with
  | noTag _ => simp [cmd0]
  | bad _ _ _ => simp [cmd0]
  | good e i o =>
    have hf := Fin.toks (by rw [List.length_drop]; omega) i
    obtain ⟨l', e', rfl, he0, _, hok, hl'⟩ := hf
    rw [body_is (fun x hx => ⟨(hok x hx).1, (hok x hx).2.1⟩) (fun x hx h => ((hok x hx).2.2.2 h).1) (fun x hx => by have := (hok x hx).2.2.1; omega) he0] at o
    exact bodyR_bd o (fun x hx => (hok x hx).2.2.1)

set_option maxRecDepth 100000 in
set_option maxHeartbeats 1000000 in
theorem commandParses_any (A : Option Addr) (c : Nat) (l : List UInt8) (_hl : l.length ≤ maxLen) (w : World) (henv : Env w) (hA : ByAt w.heap.size w A c l) :
    Calls Tryz.prog 3 #[.slice A l.length c] w fun e w' => e = .returned (.bool true) ∧ Below w.heap.size w w' := by
  have AL := Lib.hid (fun W (hW : Below w.heap.size w W) => alive7_any W (henv.below hW))
  by_cases h2 : 2000 < l.length
  · have d1 : decide ((2000 : Int) < (l.length : Int)) = true := by simp; omega
    have d2 : decide (2000 < l.length) = true := by simpa using h2
    clear hA h2
    generalize l.length = n at *
    go_enter Tryz.func3, Tryz.ntmps3
    go_wp2_with fail
    refine (AL.out w (Below.refl _ _)).mono ?_
    rintro e w1 ⟨rfl, hb⟩
    go_wp2_with fail
    go_ret
    exact ⟨rfl, hb⟩
  · have d1 : decide ((2000 : Int) < (l.length : Int)) = false := by simp; omega
    have d2 : decide (2000 < l.length) = false := by simpa using h2
    have PA := Lib.hid (command_any w.heap.size c A l (by omega) w henv hA)
    have RP := Lib.hid (fun W (hW : Below w.heap.size w W) => rcommand_any w.heap.size c A l (by omega) W (hA.grow hW))
    have HL : Hid (l.length ≤ 9000) := Lib.hid (by omega)
    clear hA h2 henv
    go_enter Tryz.func3, Tryz.ntmps3
    go_wp2_with fail
    refine PA.out.mono ?_
    rintro e w1 ⟨cm, ok, v, hi, rfl, ⟨⟨_, _, rfl, ⟨A1, k1, rfl, h1a, h1b⟩, A2, k2, rfl, h2a, h2b⟩, _⟩, hb1⟩
    have BD := Lib.hid (hi.bd HL.out)
    have hx := heap_alloc_new w1 (.cells (cmdA cm (.slice A1 cm.set.length k1) (.slice A2 cm.data.length k2)) 27)
    have b12 := below_al w1 (.cells (cmdA cm (.slice A1 cm.set.length k1) (.slice A2 cm.data.length k2)) 27)
    have HB2 := Lib.hid (hb1.trans (b12.mono hb1.size))
    have HX := Lib.hid hx
    have S1 := Lib.hid (h1b.below b12)
    have S2 := Lib.hid (h2b.below b12)
    have HI := Lib.hid hi
    have L2 := Lib.hid h2a
    have hs2 : w1.heap.size + 1 = _ := (World.size_alloc w1 (.cells (cmdA cm (.slice A1 cm.set.length k1) (.slice A2 cm.data.length k2)) 27)).symm
    unfold cmdA at *
    clear hx b12 h1b h2b hi hb1 PA h1a h2a
    go_upto_region 4 with (fail)
    generalize w1.alloc (.cells #[.string ⟨cm.tag.toArray⟩, .int .i64 (cm.kind : Int), .string ⟨cm.mbox.toArray⟩, .slice A1 cm.set.length k1, .int .i64 (cm.items : Int), .int .i64 (cm.mode : Int), .bool cm.silent, .int .u8 (cm.flags : Int), .slice A2 cm.data.length k2] 27) = w2 at *
    go_wp2_with fail
    refine (RP.out _ HB2.out).mono ?_
    rintro e w3 ⟨cm', ok', v, hi, rfl, ⟨⟨_, _, rfl, ⟨A3, k3, rfl, h1a, h1b⟩, A4, k4, rfl, h2a, h2b⟩, _⟩, hb3⟩
    obtain ⟨rfl, rfl⟩ := HI.out.det hi
    have b34 := below_al w3 (.cells #[.string ⟨cm.tag.toArray⟩, .int .i64 (cm.kind : Int), .string ⟨cm.mbox.toArray⟩, .slice A3 cm.set.length k3, .int .i64 (cm.items : Int), .int .i64 (cm.mode : Int), .bool cm.silent, .int .u8 (cm.flags : Int), .slice A4 cm.data.length k4] 27)
    have b24 := below_next hb3 b34
    have HX4 := Lib.hid ((b24.block w1.heap.size (by omega)).trans HX.out)
    have HY4 := Lib.hid (heap_alloc_new w3 (.cells #[.string ⟨cm.tag.toArray⟩, .int .i64 (cm.kind : Int), .string ⟨cm.mbox.toArray⟩, .slice A3 cm.set.length k3, .int .i64 (cm.items : Int), .int .i64 (cm.mode : Int), .bool cm.silent, .int .u8 (cm.flags : Int), .slice A4 cm.data.length k4] 27))
    have HB4 := Lib.hid (HB2.out.trans (b24.mono HB2.out.size))
    have S1 := Lib.hid (S1.out.below b24)
    have S2 := Lib.hid (S2.out.below b24)
    have S3 := Lib.hid (h1b.below b34)
    have S4 := Lib.hid (h2b.below b34)
    have L4 := Lib.hid h2a
    have hs3 := hb3.size
    have hs4 := World.size_alloc w3 (.cells #[.string ⟨cm.tag.toArray⟩, .int .i64 (cm.kind : Int), .string ⟨cm.mbox.toArray⟩, .slice A3 cm.set.length k3, .int .i64 (cm.items : Int), .int .i64 (cm.mode : Int), .bool cm.silent, .int .u8 (cm.flags : Int), .slice A4 cm.data.length k4] 27)
    unfold cmdA
    clear b24 b34 h1b h2b h1a h2a hi hb3 RP HX HB2
    go_upto_region 5 with (fail)
    generalize w3.alloc (.cells #[.string ⟨cm.tag.toArray⟩, .int .i64 (cm.kind : Int), .string ⟨cm.mbox.toArray⟩, .slice A3 cm.set.length k3, .int .i64 (cm.items : Int), .int .i64 (cm.mode : Int), .bool cm.silent, .int .u8 (cm.flags : Int), .slice A4 cm.data.length k4] 27) = w4 at *
    go_wp2_with fail
    refine (AL.out _ HB4.out).mono ?_
    rintro e w5 ⟨rfl, hb5⟩
    obtain ⟨x0, x1, x2, x3, x4, x5, x6, x7, x8⟩ := cells9 ((hb5.block w1.heap.size (by omega)).trans HX4.out)
    obtain ⟨y0, y1, y2, y3, y4, y5, y6, y7, y8⟩ := cells9 ((hb5.block w3.heap.size (by omega)).trans HY4.out)
    have SM := Lib.hid (rsame_cmd cm cm A1 A2 A3 A4 k1 k2 k3 k4 (by have := BD.out.1; omega) (by have := BD.out.2; omega) (by have := BD.out.1; omega) (by have := BD.out.2; omega) L2.out L4.out w5 (S1.out.below hb5) (S2.out.below hb5) (S3.out.below hb5) (S4.out.below hb5))
    rw [sameC_refl] at SM
    unfold cmdA at SM
    have HB5 := Lib.hid (HB4.out.trans (hb5.mono HB4.out.size))
    clear S1 S2 S3 S4 L2 L4 hb5 AL HX4 HY4 HB4 BD HI
    cases ok
    all_goals
      go_wp2_with fail
      refine SM.out.mono ?_
      rintro e w6 ⟨rfl, hb6⟩
      go_wp2_with fail
      go_ret
      exact ⟨rfl, HB5.out.trans (hb6.mono HB5.out.size)⟩
end Go.Proofs.YthfopimgdikpgaaGreatDoor

namespace Go.Proofs.YthfopimgdikpgaaGreatDoor
open Go.RowKit

/-! The shapes of commands that are valid. -/
theorem vc_low {tag : List UInt8} {k : Nat} (ht : allL tagN tag = true) (h : 1 ≤ k ∧ k ≤ 4) : validC (ciOf { cmd0 tag with kind := k }) = true := by
  have hc : k = 1 ∨ k = 2 ∨ k = 3 ∨ k = 4 := by omega
  rcases hc with rfl | rfl | rfl | rfl <;> simp [validC, okC, shortC, ownC, sameC, ciOf, cmd0, ht]
theorem vc_sel {tag m : List UInt8} (ht : allL tagN tag = true) (hm : m.length ≤ 65536) : validC (ciOf { cmd0 tag with kind := 5, mbox := m }) = true := by
  simp [validC, okC, shortC, ownC, sameC, ciOf, cmd0, ht, hm]
theorem vc_app {tag m d : List UInt8} {g : Nat} (ht : allL tagN tag = true) (hm : m.length ≤ 65536) (hd : d.length ≤ 65536) (hg : g ≤ 31) : validC (ciOf { cmd0 tag with kind := 6, mbox := m, flags := g, data := d }) = true := by
  have : ((g : Nat) : Int) ≤ 31 := by omega
  simp [validC, okC, shortC, ownC, sameC, ciOf, cmd0, ht, hm, hd, this]
theorem vc_fet {tag : List UInt8} {set : List R} {i : Nat} (ht : allL tagN tag = true) (hs : 0 < set.length) (h1 : 1 ≤ i) (h2 : i ≤ 31) : validC (ciOf { cmd0 tag with kind := 7, set := set, items := i }) = true := by
  have e1 : (1 : Int) ≤ (i : Int) := by omega
  have e2 : (i : Int) ≤ 31 := by omega
  simp [validC, okC, shortC, ownC, sameC, ciOf, cmd0, ht, hs, e1, e2]
theorem vc_sto {tag : List UInt8} {set : List R} {mo g : Nat} {si : Bool} (ht : allL tagN tag = true) (hs : 0 < set.length) (h1 : mo ≤ 2) (h2 : g ≤ 31) : validC (ciOf { cmd0 tag with kind := 8, set := set, mode := mo, silent := si, flags := g }) = true := by
  have e1 : (mo : Int) ≤ 2 := by omega
  have e2 : (g : Int) ≤ 31 := by omega
  simp [validC, okC, shortC, ownC, sameC, ciOf, cmd0, ht, hs, e1, e2]

theorem foldI_ge (ps : List (List UInt8)) : ∀ a, a ≤ ps.foldl (fun a p => a ||| itemL p) a := by
  induction ps with
  | nil => intro a; exact Nat.le_refl _
  | cons p ps ih => intro a; exact Nat.le_trans Nat.left_le_or (ih _)
theorem items_bd {ps : List (List UInt8)} {i : Nat} (h : itemsO ps = some i) : 1 ≤ i ∧ i ≤ 31 := by
  unfold itemsO at h
  split at h
  · rename_i hc
    cases h
    have hlt := orI_lt ps
    refine ⟨?_, by omega⟩
    rcases ps with _ | ⟨p, ps⟩
    · exact absurd rfl hc.1
    · have h0 := hc.2
      rw [List.all_cons, Bool.and_eq_true] at h0
      have h1 : itemL p ≠ 0 := by simpa using h0.1
      have := foldI_ge ps (0 ||| itemL p)
      unfold orI
      rw [List.foldl_cons]
      have h2 : 0 ||| itemL p = itemL p := Nat.zero_or _
      omega
  · cases h
theorem names_bd {ps : List (List UInt8)} {g : Nat} (h : namesO ps = some g) : g ≤ 31 := by
  unfold namesO at h
  split at h
  · cases h; have := orF_lt ps; omega
  · cases h
theorem flags_bd {ps : List (List UInt8)} {g : Nat} (h : flagsO ps = some g) : g ≤ 31 := by
  unfold flagsO at h
  split at h
  · cases h; omega
  · exact names_bd h
theorem lsR_bd {m : List Tok} {g : Nat} (h : lsR false m = some g) : g ≤ 31 := by
  unfold lsR at h
  rw [Option.bind_eq_some_iff] at h
  obtain ⟨ns, _, h⟩ := h
  exact flags_bd h
theorem wsR_bd {m : List Tok} {g : Nat} (h : wsR false m = some g) : g ≤ 31 := by
  unfold wsR at h
  rw [Option.bind_eq_some_iff] at h
  obtain ⟨ns, _, h⟩ := h
  exact names_bd h
theorem wlR_items {l : List Tok} {i : Nat} (h : (if l.length = 1 then wsR true l else lsR true l) = some i) : 1 ≤ i ∧ i ≤ 31 := by
  split at h
  · unfold wsR at h
    rw [Option.bind_eq_some_iff] at h
    obtain ⟨ns, _, h⟩ := h
    exact items_bd h
  · unfold lsR at h
    rw [Option.bind_eq_some_iff] at h
    obtain ⟨ns, _, h⟩ := h
    exact items_bd h
theorem modeL_bd {l : List UInt8} {p : Nat × Bool} (h : modeL l = some p) : p.1 ≤ 2 := by
  unfold modeL at h
  rw [Option.map_eq_some_iff] at h
  obtain ⟨m, hm, rfl⟩ := h
  unfold modeU at hm
  repeat' split at hm
  all_goals first | (cases hm; simp) | cases hm
theorem parseP_pos {l : List UInt8} (h : (parseP l).2 = true) : 0 < (parseP l).1.length := by
  unfold parseP at *
  split
  · rw [List.length_map]; exact List.length_pos_iff.2 (splitL_ne 44 l)
  · rename_i hc; rw [if_neg hc] at h; cases h

theorem appR_form {c c' : Cmd} {l : List Tok} (h : appR c l = some c') : ∃ g, (g = c.flags ∨ g ≤ 31) ∧ ∃ d ∈ l, c' = { c with flags := g, data := d.text } := by
  rcases List.eq_nil_or_concat l with rfl | ⟨m, d, rfl⟩
  · simp [appR] at h
  rw [List.concat_eq_append] at *
  by_cases h6 : d.kind = 6
  rotate_left
  · rw [appR_bad c m d h6] at h; cases h
  rcases List.eq_nil_or_concat m with rfl | ⟨m, s, rfl⟩
  · rw [List.nil_append, appR_one c d h6] at h
    cases h
    exact ⟨c.flags, .inl rfl, d, by simp, rfl⟩
  rw [List.concat_eq_append] at *
  rw [appR_more c m s d h6] at h
  split at h
  · rw [Option.map_eq_some_iff] at h
    obtain ⟨g, hg, rfl⟩ := h
    exact ⟨g, .inr (lsR_bd hg), d, by simp, rfl⟩
  · cases h
theorem stoR_form {c c' : Cmd} {l : List Tok} (h : stoR c l = some c') : ∃ mo si g, mo ≤ 2 ∧ g ≤ 31 ∧ c' = { c with mode := mo, silent := si, flags := g } := by
  unfold stoR at h
  split at h
  · split at h
    · simp only [Option.bind_eq_some_iff, Option.map_eq_some_iff] at h
      obtain ⟨mo, hm, g, hg, rfl⟩ := h
      refine ⟨mo.1, mo.2, g, modeL_bd hm, ?_, rfl⟩
      rw [Option.or_eq_some_iff] at hg
      rcases hg with hg | ⟨_, hg⟩
      · rw [Option.bind_eq_some_iff] at hg
        obtain ⟨_, _, hg⟩ := hg
        exact flags_bd hg
      · rw [Option.bind_eq_some_iff] at hg
        obtain ⟨_, _, hg⟩ := hg
        exact flags_bd hg
    · cases h
  · cases h
theorem bodyR_valid {tag : List UInt8} {l : List Tok} {c : Cmd} (h : bodyR tag l = some c) (ht : allL tagN tag = true) (hl : ∀ t ∈ l, t.text.length ≤ 9000) : validC (ciOf c) = true ∧ c.tag = tag := by
  rcases l with _ | ⟨t, r⟩
  · simp [bodyR] at h
  by_cases h4 : t.kind = 4
  rotate_left
  · rw [bodyR_no4 tag h4] at h; cases h
  by_cases h0 : kindL t.text = 0
  · rw [bodyR_zero tag h0] at h; cases h
  by_cases hle : kindL t.text ≤ 4
  · rw [bodyR_low tag h4 h0 hle] at h
    split at h
    · cases h; exact ⟨vc_low ht ⟨by omega, hle⟩, rfl⟩
    · cases h
  have hk : 4 < kindL t.text := by omega
  have hk8 := kindL_le t.text
  rcases r with _ | ⟨s, _ | ⟨m, q⟩⟩
  · rw [bodyR_short tag hk (by simp)] at h; cases h
  · rw [bodyR_short tag hk (by simp)] at h; cases h
  by_cases hs : s.kind = 1
  rotate_left
  · rw [bodyR_nos tag hk hs] at h; cases h
  have hm := hl m (by simp)
  by_cases h6 : kindL t.text ≤ 6
  · rw [bodyR_mbox tag h4 hk h6 hs] at h
    split at h
    · cases h
    by_cases h5 : kindL t.text = 5
    · rw [h5] at h
      rw [if_pos rfl] at h
      split at h
      · cases h; exact ⟨vc_sel ht (by omega), rfl⟩
      · cases h
    · rw [if_neg h5] at h
      have h6' : kindL t.text = 6 := by omega
      rw [h6'] at h
      rcases q with _ | ⟨z, d⟩
      · cases h
      · replace h : (if z.kind = 1 then appR { cmd0 tag with kind := 6, mbox := m.text } d else none) = some c := h
        split at h
        · obtain ⟨g, hg, x, hx, rfl⟩ := appR_form h
          have hd := hl x (by simp [hx])
          have hg' : g ≤ 31 := by
            rcases hg with hg | hg
            · rw [hg]; exact Nat.zero_le _
            · exact hg
          exact ⟨vc_app (m := m.text) ht (by omega) (by omega) hg', rfl⟩
        · cases h
  · rw [bodyR_set tag h4 (by omega) hs] at h
    split at h
    · cases h
    · rename_i hp
      have hp2 : (parseP m.text).2 = true := by
        cases hq : (parseP m.text).2 with
        | true => rfl
        | false => exact absurd (.inr hq) hp
      have hpos := parseP_pos hp2
      rcases q with _ | ⟨z, d⟩
      · cases h
      · replace h : (if z.kind = 1 ∧ d ≠ [] then (if kindL t.text = 7 then fetR { cmd0 tag with kind := kindL t.text, set := (parseP m.text).1 } d else stoR { cmd0 tag with kind := kindL t.text, set := (parseP m.text).1 } d) else none) = some c := h
        split at h
        · by_cases h7 : kindL t.text = 7
          · rw [if_pos h7, h7, fetR_is, Option.map_eq_some_iff] at h
            obtain ⟨i, hi, rfl⟩ := h
            have hb := wlR_items hi
            exact ⟨vc_fet ht hpos hb.1 hb.2, rfl⟩
          · have h8 : kindL t.text = 8 := by omega
            rw [if_neg h7, h8] at h
            obtain ⟨mo, si, g, hmo, hg, rfl⟩ := stoR_form h
            exact ⟨vc_sto ht hpos hmo hg, rfl⟩
        · cases h
theorem tagO_all {l t : List UInt8} (h : tagO l = some t) : allL tagN t = true := by
  unfold tagO at h
  split at h
  · rename_i hc
    cases h
    unfold allL
    rw [Bool.and_eq_true]
    refine ⟨by simpa using hc.1, ?_⟩
    unfold tagL
    exact List.all_takeWhile
  · cases h
theorem tagO_len {l t : List UInt8} (h : tagO l = some t) : t.length ≤ l.length := by
  unfold tagO at h
  split at h
  · cases h
    exact (List.takeWhile_prefix _).length_le
  · cases h
/-- Each command that is parsed is valid. -/
theorem IsCmd.valid {l : List UInt8} {c : Cmd} {b : Bool} (h : IsCmd l c b) (hl : l.length ≤ 9000) (hb : b = true) : validC (ciOf c) = true ∧ c.tag.length ≤ 9000 := by
  cases h with
  | noTag _ => cases hb
  | bad _ _ _ => cases hb
  | good e i o =>
    have hf := Fin.toks (by rw [List.length_drop]; omega) i
    obtain ⟨l', e', rfl, he0, _, hok, hl'⟩ := hf
    rw [body_is (fun x hx => ⟨(hok x hx).1, (hok x hx).2.1⟩) (fun x hx h => ((hok x hx).2.2.2 h).1) (fun x hx => by have := (hok x hx).2.2.1; omega) he0] at o
    obtain ⟨h1, h2⟩ := bodyR_valid o (tagO_all e) (fun x hx => (hok x hx).2.2.1)
    exact ⟨h1, by rw [h2]; exact Nat.le_trans (tagO_len e) hl⟩
/-- What a valid command's fields keep to. -/
theorem validC_bd {a : CI} (h : validC a = true) : a.mbox.length ≤ 65536 ∧ a.data.length ≤ 65536 ∧ a.flags ≤ 31 := by
  unfold validC shortC at h
  simp only [Bool.and_eq_true, decide_eq_true_eq] at h
  exact ⟨h.2.1.1, h.2.1.2, h.2.2.1⟩
end Go.Proofs.YthfopimgdikpgaaGreatDoor

namespace Go.Proofs.YthfopimgdikpgaaGreatDoor
open Go.RowKit

noncomputable def cvOps : Array Oper := ((Tryz.f4.body).bind (dfind 4)).getD #[]
theorem cv_size : cvOps.size = 21 := by kernel_rfl
theorem cv_o0 : ∃ o, cvOps[0]? = some o ∧ o.guard = none ∧ o.op = .call { callee := .value (.func 9), args := #[], argTypes := #[] } := ⟨_, by rfl, by rfl, by rfl⟩
theorem cv_o1 : ∃ o, cvOps[1]? = some o ∧ o.guard = none ∧ o.op = .move (.tmp 21) := ⟨_, by rfl, by rfl, by rfl⟩
theorem cv_o2 : ∃ o, cvOps[2]? = some o ∧ o.guard = some (1, true) ∧ o.op = .load 27 (.tmp 2) := ⟨_, by rfl, by rfl, by rfl⟩
theorem cv_o3 : ∃ o, cvOps[3]? = some o ∧ o.guard = some (1, true) ∧ o.op = .call { callee := .value (.func 14), args := #[(.tmp 23)], argTypes := #[27] } := ⟨_, by rfl, by rfl, by rfl⟩
theorem cv_o4 : ∃ o, cvOps[4]? = some o ∧ o.guard = some (1, true) ∧ o.op = .load 27 (.tmp 2) := ⟨_, by rfl, by rfl, by rfl⟩
theorem cv_o5 : ∃ o, cvOps[5]? = some o ∧ o.guard = some (1, true) ∧ o.op = .call { callee := .value (.func 15), args := #[(.tmp 25)], argTypes := #[27] } := ⟨_, by rfl, by rfl, by rfl⟩
theorem cv_o6 : ∃ o, cvOps[6]? = some o ∧ o.guard = some (1, true) ∧ o.op = .binOp .eql 4 (.tmp 24) (.tmp 26) 4 := ⟨_, by rfl, by rfl, by rfl⟩
theorem cv_o7 : ∃ o, cvOps[7]? = some o ∧ o.guard = none ∧ o.op = .pick (.tmp 22) (.tmp 27) (.const (Value.bool false)) := ⟨_, by rfl, by rfl, by rfl⟩
theorem cv_o8 : ∃ o, cvOps[8]? = some o ∧ o.guard = none ∧ o.op = .move (.tmp 28) := ⟨_, by rfl, by rfl, by rfl⟩
theorem cv_o9 : ∃ o, cvOps[9]? = some o ∧ o.guard = some (8, true) ∧ o.op = .move (.tmp 6) := ⟨_, by rfl, by rfl, by rfl⟩
theorem cv_o10 : ∃ o, cvOps[10]? = some o ∧ o.guard = some (8, true) ∧ o.op = .unOp .not 4 (.tmp 30) := ⟨_, by rfl, by rfl, by rfl⟩
theorem cv_o11 : ∃ o, cvOps[11]? = some o ∧ o.guard = some (8, true) ∧ o.op = .move (.tmp 31) := ⟨_, by rfl, by rfl, by rfl⟩
theorem cv_o12 : ∃ o, cvOps[12]? = some o ∧ o.guard = some (11, false) ∧ o.op = .load 27 (.tmp 5) := ⟨_, by rfl, by rfl, by rfl⟩
theorem cv_o13 : ∃ o, cvOps[13]? = some o ∧ o.guard = some (11, false) ∧ o.op = .call { callee := .value (.func 14), args := #[(.tmp 33)], argTypes := #[27] } := ⟨_, by rfl, by rfl, by rfl⟩
theorem cv_o14 : ∃ o, cvOps[14]? = some o ∧ o.guard = some (11, false) ∧ o.op = .move (.tmp 34) := ⟨_, by rfl, by rfl, by rfl⟩
theorem cv_o15 : ∃ o, cvOps[15]? = some o ∧ o.guard = some (14, true) ∧ o.op = .load 27 (.tmp 5) := ⟨_, by rfl, by rfl, by rfl⟩
theorem cv_o16 : ∃ o, cvOps[16]? = some o ∧ o.guard = some (14, true) ∧ o.op = .call { callee := .value (.func 15), args := #[(.tmp 36)], argTypes := #[27] } := ⟨_, by rfl, by rfl, by rfl⟩
theorem cv_o17 : ∃ o, cvOps[17]? = some o ∧ o.guard = some (11, false) ∧ o.op = .pick (.tmp 35) (.tmp 37) (.const (Value.bool false)) := ⟨_, by rfl, by rfl, by rfl⟩
theorem cv_o18 : ∃ o, cvOps[18]? = some o ∧ o.guard = some (8, true) ∧ o.op = .pick (.tmp 32) (.const (Value.bool true)) (.tmp 38) := ⟨_, by rfl, by rfl, by rfl⟩
theorem cv_o19 : ∃ o, cvOps[19]? = some o ∧ o.guard = none ∧ o.op = .pick (.tmp 29) (.tmp 39) (.const (Value.bool false)) := ⟨_, by rfl, by rfl, by rfl⟩
theorem cv_o20 : ∃ o, cvOps[20]? = some o ∧ o.guard = none ∧ o.op = .assign (.tmp 40) := ⟨_, by rfl, by rfl, by rfl⟩
theorem cv_fit : dfits cvOps (dahead cvOps) 41 = true := by kernel_rfl
/-- What the operations yield, where Parse has returned true. -/
def cvV (va vd : Value) (q : Bool) : Nat → Value
  | 0 => .bool true
  | 1 => .bool true
  | 2 => va
  | 3 => .bool q
  | 4 => va
  | 5 => .bool q
  | 6 => .bool true
  | 7 => .bool true
  | 8 => .bool true
  | 9 => .bool true
  | 10 => .bool false
  | 11 => .bool false
  | 12 => vd
  | 13 => .bool true
  | 14 => .bool true
  | 15 => vd
  | 16 => .bool true
  | 17 => .bool true
  | 18 => .bool true
  | 19 => .bool true
  | 20 => .bool true
  | _ => undef
/-- What they yield, where it has returned false. -/
def cwV (va : Value) (q : Bool) : Nat → Value
  | 0 => .bool true
  | 1 => .bool true
  | 2 => va
  | 3 => .bool q
  | 4 => va
  | 5 => .bool q
  | 6 => .bool true
  | 7 => .bool true
  | 8 => .bool true
  | 9 => .bool false
  | 10 => .bool true
  | 11 => .bool true
  | 12 => undef
  | 13 => undef
  | 14 => undef
  | 15 => undef
  | 16 => undef
  | 17 => undef
  | 18 => .bool true
  | 19 => .bool true
  | 20 => .bool true
  | _ => undef

set_option maxRecDepth 100000 in
set_option maxHeartbeats 1000000 in
theorem cv_step (va vd : Value) (q : Bool) (p2 p5 : Value) (T : Array Value) (hT2 : T.getD 2 undef = p2) (hT5 : T.getD 5 undef = p5) (hT6 : T.getD 6 undef = .bool true) (S : World → Prop)
    (L2 : ∀ W, S W → (Instr.loadAt 27 p2).run Tryz.prog W = .ok va W)
    (AL : ∀ W, S W → Calls Tryz.prog 9 #[] W fun e w' => e = .returned (.bool true) ∧ S w')
    (PV : ∀ W, S W → Calls Tryz.prog 14 #[va] W fun e w' => e = .returned (.bool q) ∧ S w')
    (RV : ∀ W, S W → Calls Tryz.prog 15 #[va] W fun e w' => e = .returned (.bool q) ∧ S w')
    (L5 : ∀ W, S W → (Instr.loadAt 27 p5).run Tryz.prog W = .ok vd W)
    (PD : ∀ W, S W → Calls Tryz.prog 14 #[vd] W fun e w' => e = .returned (.bool true) ∧ S w')
    (RD : ∀ W, S W → Calls Tryz.prog 15 #[vd] W fun e w' => e = .returned (.bool true) ∧ S w') :
    ∀ i o, cvOps[i]? = some o → ∀ (m : Nat → Bool) w', (∀ k ∈ dal (dahead cvOps) i, m k = true) → m i = false → S w' → DStep Tryz.prog o (dval cvOps (dahead cvOps) (cvV va vd q) T i) (cvV va vd q) i S (fun _ _ => False) w' := by
  intro i o ho m w' _ _ hS
  have hi : i < 21 := by rw [← cv_size]; exact (Array.getElem?_eq_some_iff.1 ho).1
  rcases i with _ | _ | _ | _ | _ | _ | _ | _ | _ | _ | _ | _ | _ | _ | _ | _ | _ | _ | _ | _ | _ | i
  · obtain ⟨o', ho', hg, hop⟩ := cv_o0
    obtain rfl := Option.some.inj (ho'.symm.trans ho)
    exact dstep_enter (by simp [dwant, hg]) (dexec_call hop rfl (by simp [go_sem])) (AL _ hS)
  · obtain ⟨o', ho', hg, hop⟩ := cv_o1
    obtain rfl := Option.some.inj (ho'.symm.trans ho)
    have r21 : dval cvOps (dahead cvOps) (cvV va vd q) T 1 (.tmp 21) = .bool true := by kernel_rfl
    exact dstep_value (by simp [dwant, hg]) (show (execOp _ _).run Tryz.prog w' = .ok (.value (.bool true)) w' by simp [execOp, hop, go_sem, r21]) hS
  · obtain ⟨o', ho', hg, hop⟩ := cv_o2
    obtain rfl := Option.some.inj (ho'.symm.trans ho)
    have r2 : dval cvOps (dahead cvOps) (cvV va vd q) T 2 (.tmp 2) = p2 := (show _ = T.getD 2 undef by kernel_rfl).trans hT2
    exact dstep_value (by simp [dwant, hg, cvV]) (dexec_load hop (by rw [r2]; exact L2 _ hS)) hS
  · obtain ⟨o', ho', hg, hop⟩ := cv_o3
    obtain rfl := Option.some.inj (ho'.symm.trans ho)
    have r23 : dval cvOps (dahead cvOps) (cvV va vd q) T 3 (.tmp 23) = va := by kernel_rfl
    exact dstep_enter (by simp [dwant, hg, cvV]) (dexec_call hop rfl (by simp [go_sem, r23])) (PV _ hS)
  · obtain ⟨o', ho', hg, hop⟩ := cv_o4
    obtain rfl := Option.some.inj (ho'.symm.trans ho)
    have r2 : dval cvOps (dahead cvOps) (cvV va vd q) T 4 (.tmp 2) = p2 := (show _ = T.getD 2 undef by kernel_rfl).trans hT2
    exact dstep_value (by simp [dwant, hg, cvV]) (dexec_load hop (by rw [r2]; exact L2 _ hS)) hS
  · obtain ⟨o', ho', hg, hop⟩ := cv_o5
    obtain rfl := Option.some.inj (ho'.symm.trans ho)
    have r25 : dval cvOps (dahead cvOps) (cvV va vd q) T 5 (.tmp 25) = va := by kernel_rfl
    exact dstep_enter (by simp [dwant, hg, cvV]) (dexec_call hop rfl (by simp [go_sem, r25])) (RV _ hS)
  · obtain ⟨o', ho', hg, hop⟩ := cv_o6
    obtain rfl := Option.some.inj (ho'.symm.trans ho)
    have r24 : dval cvOps (dahead cvOps) (cvV va vd q) T 6 (.tmp 24) = .bool q := by kernel_rfl
    have r26 : dval cvOps (dahead cvOps) (cvV va vd q) T 6 (.tmp 26) = .bool q := by kernel_rfl
    exact dstep_value (by simp [dwant, hg, cvV]) (show (execOp _ _).run Tryz.prog w' = .ok (.value (.bool true)) w' by simp [execOp, hop, go_sem, r24, r26]) hS
  · obtain ⟨o', ho', hg, hop⟩ := cv_o7
    obtain rfl := Option.some.inj (ho'.symm.trans ho)
    have r22 : dval cvOps (dahead cvOps) (cvV va vd q) T 7 (.tmp 22) = .bool true := by kernel_rfl
    have r27 : dval cvOps (dahead cvOps) (cvV va vd q) T 7 (.tmp 27) = .bool true := by kernel_rfl
    exact dstep_value (by simp [dwant, hg]) (show (execOp _ _).run Tryz.prog w' = .ok (.value (.bool true)) w' by simp [execOp, hop, go_sem, r22, r27]) hS
  · obtain ⟨o', ho', hg, hop⟩ := cv_o8
    obtain rfl := Option.some.inj (ho'.symm.trans ho)
    have r28 : dval cvOps (dahead cvOps) (cvV va vd q) T 8 (.tmp 28) = .bool true := by kernel_rfl
    exact dstep_value (by simp [dwant, hg]) (show (execOp _ _).run Tryz.prog w' = .ok (.value (.bool true)) w' by simp [execOp, hop, go_sem, r28]) hS
  · obtain ⟨o', ho', hg, hop⟩ := cv_o9
    obtain rfl := Option.some.inj (ho'.symm.trans ho)
    have r6 : dval cvOps (dahead cvOps) (cvV va vd q) T 9 (.tmp 6) = .bool true := (show _ = T.getD 6 undef by kernel_rfl).trans hT6
    exact dstep_value (by simp [dwant, hg, cvV]) (show (execOp _ _).run Tryz.prog w' = .ok (.value (.bool true)) w' by simp [execOp, hop, go_sem, r6]) hS
  · obtain ⟨o', ho', hg, hop⟩ := cv_o10
    obtain rfl := Option.some.inj (ho'.symm.trans ho)
    have r30 : dval cvOps (dahead cvOps) (cvV va vd q) T 10 (.tmp 30) = .bool true := by kernel_rfl
    exact dstep_value (by simp [dwant, hg, cvV]) (show (execOp _ _).run Tryz.prog w' = .ok (.value (.bool false)) w' by simp [execOp, hop, go_sem, r30]) hS
  · obtain ⟨o', ho', hg, hop⟩ := cv_o11
    obtain rfl := Option.some.inj (ho'.symm.trans ho)
    have r31 : dval cvOps (dahead cvOps) (cvV va vd q) T 11 (.tmp 31) = .bool false := by kernel_rfl
    exact dstep_value (by simp [dwant, hg, cvV]) (show (execOp _ _).run Tryz.prog w' = .ok (.value (.bool false)) w' by simp [execOp, hop, go_sem, r31]) hS
  · obtain ⟨o', ho', hg, hop⟩ := cv_o12
    obtain rfl := Option.some.inj (ho'.symm.trans ho)
    have r5 : dval cvOps (dahead cvOps) (cvV va vd q) T 12 (.tmp 5) = p5 := (show _ = T.getD 5 undef by kernel_rfl).trans hT5
    exact dstep_value (by simp [dwant, hg, cvV]) (dexec_load hop (by rw [r5]; exact L5 _ hS)) hS
  · obtain ⟨o', ho', hg, hop⟩ := cv_o13
    obtain rfl := Option.some.inj (ho'.symm.trans ho)
    have r33 : dval cvOps (dahead cvOps) (cvV va vd q) T 13 (.tmp 33) = vd := by kernel_rfl
    exact dstep_enter (by simp [dwant, hg, cvV]) (dexec_call hop rfl (by simp [go_sem, r33])) (PD _ hS)
  · obtain ⟨o', ho', hg, hop⟩ := cv_o14
    obtain rfl := Option.some.inj (ho'.symm.trans ho)
    have r34 : dval cvOps (dahead cvOps) (cvV va vd q) T 14 (.tmp 34) = .bool true := by kernel_rfl
    exact dstep_value (by simp [dwant, hg, cvV]) (show (execOp _ _).run Tryz.prog w' = .ok (.value (.bool true)) w' by simp [execOp, hop, go_sem, r34]) hS
  · obtain ⟨o', ho', hg, hop⟩ := cv_o15
    obtain rfl := Option.some.inj (ho'.symm.trans ho)
    have r5 : dval cvOps (dahead cvOps) (cvV va vd q) T 15 (.tmp 5) = p5 := (show _ = T.getD 5 undef by kernel_rfl).trans hT5
    exact dstep_value (by simp [dwant, hg, cvV]) (dexec_load hop (by rw [r5]; exact L5 _ hS)) hS
  · obtain ⟨o', ho', hg, hop⟩ := cv_o16
    obtain rfl := Option.some.inj (ho'.symm.trans ho)
    have r36 : dval cvOps (dahead cvOps) (cvV va vd q) T 16 (.tmp 36) = vd := by kernel_rfl
    exact dstep_enter (by simp [dwant, hg, cvV]) (dexec_call hop rfl (by simp [go_sem, r36])) (RD _ hS)
  · obtain ⟨o', ho', hg, hop⟩ := cv_o17
    obtain rfl := Option.some.inj (ho'.symm.trans ho)
    have r35 : dval cvOps (dahead cvOps) (cvV va vd q) T 17 (.tmp 35) = .bool true := by kernel_rfl
    have r37 : dval cvOps (dahead cvOps) (cvV va vd q) T 17 (.tmp 37) = .bool true := by kernel_rfl
    exact dstep_value (by simp [dwant, hg, cvV]) (show (execOp _ _).run Tryz.prog w' = .ok (.value (.bool true)) w' by simp [execOp, hop, go_sem, r35, r37]) hS
  · obtain ⟨o', ho', hg, hop⟩ := cv_o18
    obtain rfl := Option.some.inj (ho'.symm.trans ho)
    have r32 : dval cvOps (dahead cvOps) (cvV va vd q) T 18 (.tmp 32) = .bool false := by kernel_rfl
    have r38 : dval cvOps (dahead cvOps) (cvV va vd q) T 18 (.tmp 38) = .bool true := by kernel_rfl
    exact dstep_value (by simp [dwant, hg, cvV]) (show (execOp _ _).run Tryz.prog w' = .ok (.value (.bool true)) w' by simp [execOp, hop, go_sem, r32, r38]) hS
  · obtain ⟨o', ho', hg, hop⟩ := cv_o19
    obtain rfl := Option.some.inj (ho'.symm.trans ho)
    have r29 : dval cvOps (dahead cvOps) (cvV va vd q) T 19 (.tmp 29) = .bool true := by kernel_rfl
    have r39 : dval cvOps (dahead cvOps) (cvV va vd q) T 19 (.tmp 39) = .bool true := by kernel_rfl
    exact dstep_value (by simp [dwant, hg]) (show (execOp _ _).run Tryz.prog w' = .ok (.value (.bool true)) w' by simp [execOp, hop, go_sem, r29, r39]) hS
  · obtain ⟨o', ho', hg, hop⟩ := cv_o20
    obtain rfl := Option.some.inj (ho'.symm.trans ho)
    have r40 : dval cvOps (dahead cvOps) (cvV va vd q) T 20 (.tmp 40) = .bool true := by kernel_rfl
    exact dstep_value (by simp [dwant, hg]) (show (execOp _ _).run Tryz.prog w' = .ok (.value (.bool true)) w' by simp [execOp, hop, go_sem, r40]) hS
  · omega
set_option maxRecDepth 100000 in
set_option maxHeartbeats 1000000 in
theorem cw_step (va : Value) (q : Bool) (p2 : Value) (T : Array Value) (hT2 : T.getD 2 undef = p2) (hT6 : T.getD 6 undef = .bool false) (S : World → Prop)
    (L2 : ∀ W, S W → (Instr.loadAt 27 p2).run Tryz.prog W = .ok va W)
    (AL : ∀ W, S W → Calls Tryz.prog 9 #[] W fun e w' => e = .returned (.bool true) ∧ S w')
    (PV : ∀ W, S W → Calls Tryz.prog 14 #[va] W fun e w' => e = .returned (.bool q) ∧ S w')
    (RV : ∀ W, S W → Calls Tryz.prog 15 #[va] W fun e w' => e = .returned (.bool q) ∧ S w') :
    ∀ i o, cvOps[i]? = some o → ∀ (m : Nat → Bool) w', (∀ k ∈ dal (dahead cvOps) i, m k = true) → m i = false → S w' → DStep Tryz.prog o (dval cvOps (dahead cvOps) (cwV va q) T i) (cwV va q) i S (fun _ _ => False) w' := by
  intro i o ho m w' _ _ hS
  have hi : i < 21 := by rw [← cv_size]; exact (Array.getElem?_eq_some_iff.1 ho).1
  rcases i with _ | _ | _ | _ | _ | _ | _ | _ | _ | _ | _ | _ | _ | _ | _ | _ | _ | _ | _ | _ | _ | i
  · obtain ⟨o', ho', hg, hop⟩ := cv_o0
    obtain rfl := Option.some.inj (ho'.symm.trans ho)
    exact dstep_enter (by simp [dwant, hg]) (dexec_call hop rfl (by simp [go_sem])) (AL _ hS)
  · obtain ⟨o', ho', hg, hop⟩ := cv_o1
    obtain rfl := Option.some.inj (ho'.symm.trans ho)
    have r21 : dval cvOps (dahead cvOps) (cwV va q) T 1 (.tmp 21) = .bool true := by kernel_rfl
    exact dstep_value (by simp [dwant, hg]) (show (execOp _ _).run Tryz.prog w' = .ok (.value (.bool true)) w' by simp [execOp, hop, go_sem, r21]) hS
  · obtain ⟨o', ho', hg, hop⟩ := cv_o2
    obtain rfl := Option.some.inj (ho'.symm.trans ho)
    have r2 : dval cvOps (dahead cvOps) (cwV va q) T 2 (.tmp 2) = p2 := (show _ = T.getD 2 undef by kernel_rfl).trans hT2
    exact dstep_value (by simp [dwant, hg, cwV]) (dexec_load hop (by rw [r2]; exact L2 _ hS)) hS
  · obtain ⟨o', ho', hg, hop⟩ := cv_o3
    obtain rfl := Option.some.inj (ho'.symm.trans ho)
    have r23 : dval cvOps (dahead cvOps) (cwV va q) T 3 (.tmp 23) = va := by kernel_rfl
    exact dstep_enter (by simp [dwant, hg, cwV]) (dexec_call hop rfl (by simp [go_sem, r23])) (PV _ hS)
  · obtain ⟨o', ho', hg, hop⟩ := cv_o4
    obtain rfl := Option.some.inj (ho'.symm.trans ho)
    have r2 : dval cvOps (dahead cvOps) (cwV va q) T 4 (.tmp 2) = p2 := (show _ = T.getD 2 undef by kernel_rfl).trans hT2
    exact dstep_value (by simp [dwant, hg, cwV]) (dexec_load hop (by rw [r2]; exact L2 _ hS)) hS
  · obtain ⟨o', ho', hg, hop⟩ := cv_o5
    obtain rfl := Option.some.inj (ho'.symm.trans ho)
    have r25 : dval cvOps (dahead cvOps) (cwV va q) T 5 (.tmp 25) = va := by kernel_rfl
    exact dstep_enter (by simp [dwant, hg, cwV]) (dexec_call hop rfl (by simp [go_sem, r25])) (RV _ hS)
  · obtain ⟨o', ho', hg, hop⟩ := cv_o6
    obtain rfl := Option.some.inj (ho'.symm.trans ho)
    have r24 : dval cvOps (dahead cvOps) (cwV va q) T 6 (.tmp 24) = .bool q := by kernel_rfl
    have r26 : dval cvOps (dahead cvOps) (cwV va q) T 6 (.tmp 26) = .bool q := by kernel_rfl
    exact dstep_value (by simp [dwant, hg, cwV]) (show (execOp _ _).run Tryz.prog w' = .ok (.value (.bool true)) w' by simp [execOp, hop, go_sem, r24, r26]) hS
  · obtain ⟨o', ho', hg, hop⟩ := cv_o7
    obtain rfl := Option.some.inj (ho'.symm.trans ho)
    have r22 : dval cvOps (dahead cvOps) (cwV va q) T 7 (.tmp 22) = .bool true := by kernel_rfl
    have r27 : dval cvOps (dahead cvOps) (cwV va q) T 7 (.tmp 27) = .bool true := by kernel_rfl
    exact dstep_value (by simp [dwant, hg]) (show (execOp _ _).run Tryz.prog w' = .ok (.value (.bool true)) w' by simp [execOp, hop, go_sem, r22, r27]) hS
  · obtain ⟨o', ho', hg, hop⟩ := cv_o8
    obtain rfl := Option.some.inj (ho'.symm.trans ho)
    have r28 : dval cvOps (dahead cvOps) (cwV va q) T 8 (.tmp 28) = .bool true := by kernel_rfl
    exact dstep_value (by simp [dwant, hg]) (show (execOp _ _).run Tryz.prog w' = .ok (.value (.bool true)) w' by simp [execOp, hop, go_sem, r28]) hS
  · obtain ⟨o', ho', hg, hop⟩ := cv_o9
    obtain rfl := Option.some.inj (ho'.symm.trans ho)
    have r6 : dval cvOps (dahead cvOps) (cwV va q) T 9 (.tmp 6) = .bool false := (show _ = T.getD 6 undef by kernel_rfl).trans hT6
    exact dstep_value (by simp [dwant, hg, cwV]) (show (execOp _ _).run Tryz.prog w' = .ok (.value (.bool false)) w' by simp [execOp, hop, go_sem, r6]) hS
  · obtain ⟨o', ho', hg, hop⟩ := cv_o10
    obtain rfl := Option.some.inj (ho'.symm.trans ho)
    have r30 : dval cvOps (dahead cvOps) (cwV va q) T 10 (.tmp 30) = .bool false := by kernel_rfl
    exact dstep_value (by simp [dwant, hg, cwV]) (show (execOp _ _).run Tryz.prog w' = .ok (.value (.bool true)) w' by simp [execOp, hop, go_sem, r30]) hS
  · obtain ⟨o', ho', hg, hop⟩ := cv_o11
    obtain rfl := Option.some.inj (ho'.symm.trans ho)
    have r31 : dval cvOps (dahead cvOps) (cwV va q) T 11 (.tmp 31) = .bool true := by kernel_rfl
    exact dstep_value (by simp [dwant, hg, cwV]) (show (execOp _ _).run Tryz.prog w' = .ok (.value (.bool true)) w' by simp [execOp, hop, go_sem, r31]) hS
  · obtain ⟨o', ho', hg, hop⟩ := cv_o12
    obtain rfl := Option.some.inj (ho'.symm.trans ho)
    exact dstep_off (by simp [dwant, hg, cwV]) rfl hS
  · obtain ⟨o', ho', hg, hop⟩ := cv_o13
    obtain rfl := Option.some.inj (ho'.symm.trans ho)
    exact dstep_off (by simp [dwant, hg, cwV]) rfl hS
  · obtain ⟨o', ho', hg, hop⟩ := cv_o14
    obtain rfl := Option.some.inj (ho'.symm.trans ho)
    exact dstep_off (by simp [dwant, hg, cwV]) rfl hS
  · obtain ⟨o', ho', hg, hop⟩ := cv_o15
    obtain rfl := Option.some.inj (ho'.symm.trans ho)
    exact dstep_off (by simp [dwant, hg, cwV]; rfl) rfl hS
  · obtain ⟨o', ho', hg, hop⟩ := cv_o16
    obtain rfl := Option.some.inj (ho'.symm.trans ho)
    exact dstep_off (by simp [dwant, hg, cwV]; rfl) rfl hS
  · obtain ⟨o', ho', hg, hop⟩ := cv_o17
    obtain rfl := Option.some.inj (ho'.symm.trans ho)
    exact dstep_off (by simp [dwant, hg, cwV]) rfl hS
  · obtain ⟨o', ho', hg, hop⟩ := cv_o18
    obtain rfl := Option.some.inj (ho'.symm.trans ho)
    have r32 : dval cvOps (dahead cvOps) (cwV va q) T 18 (.tmp 32) = .bool true := by kernel_rfl
    have r38 : dval cvOps (dahead cvOps) (cwV va q) T 18 (.tmp 38) = undef := by kernel_rfl
    exact dstep_value (by simp [dwant, hg, cwV]) (show (execOp _ _).run Tryz.prog w' = .ok (.value (.bool true)) w' by simp [execOp, hop, go_sem, r32, r38]) hS
  · obtain ⟨o', ho', hg, hop⟩ := cv_o19
    obtain rfl := Option.some.inj (ho'.symm.trans ho)
    have r29 : dval cvOps (dahead cvOps) (cwV va q) T 19 (.tmp 29) = .bool true := by kernel_rfl
    have r39 : dval cvOps (dahead cvOps) (cwV va q) T 19 (.tmp 39) = .bool true := by kernel_rfl
    exact dstep_value (by simp [dwant, hg]) (show (execOp _ _).run Tryz.prog w' = .ok (.value (.bool true)) w' by simp [execOp, hop, go_sem, r29, r39]) hS
  · obtain ⟨o', ho', hg, hop⟩ := cv_o20
    obtain rfl := Option.some.inj (ho'.symm.trans ho)
    have r40 : dval cvOps (dahead cvOps) (cwV va q) T 20 (.tmp 40) = .bool true := by kernel_rfl
    exact dstep_value (by simp [dwant, hg]) (show (execOp _ _).run Tryz.prog w' = .ok (.value (.bool true)) w' by simp [execOp, hop, go_sem, r40]) hS
  · omega

theorem fewC_all {a : CI} (h : fewC a = true) : a.tag.length ≤ 1000000 ∧ a.mbox.length ≤ 1000000 ∧ a.set.length ≤ 1000000 ∧ a.data.length ≤ 1000000 := by
  unfold fewC at h
  simp at h
  omega
/-- What holds at the law's last region: two commands in two boxes. -/
def CvS (w W0 : World) (g1 g5 : Nat) (ca cd : Array Value) (W : World) : Prop :=
  W.heap[g1]? = some (.cells ca 27 (0, 0)) ∧ W.heap[g5]? = some (.cells cd 27 (0, 0)) ∧ Below w.heap.size w W ∧ Below W0.heap.size W0 W ∧ g1 < W0.heap.size ∧ g5 < W0.heap.size
theorem CvS.below {w W0 W W' : World} {g1 g5 : Nat} {ca cd : Array Value} (h : CvS w W0 g1 g5 ca cd W) (hb : Below W.heap.size W W') : CvS w W0 g1 g5 ca cd W' := by
  obtain ⟨h1, h2, h3, h4, h5, h6⟩ := h
  have hz := h4.size
  exact ⟨(hb.block g1 (by omega)).trans h1, (hb.block g5 (by omega)).trans h2, below_next h3 hb, below_next h4 hb, h5, h6⟩

set_option maxRecDepth 100000 in
set_option maxHeartbeats 1000000 in
/-- Where the command is not small, or there are more than 2000 bytes. -/
theorem commandValid_few (a : CI) (A1 A2 : Option Addr) (k1 k2 : Nat) (A : Option Addr) (c : Nat) (l : List UInt8) (w : World) (henv : Env w) (h : fewC a = false ∨ 2000 < l.length) :
    Calls Tryz.prog 4 #[ciV a A1 A2 k1 k2, .slice A l.length c] w fun e w' => e = .returned (.bool true) ∧ Below w.heap.size w w' := by
  have AL := Lib.hid (fun W (hW : Below w.heap.size w W) => alive7_any W (henv.below hW))
  have FA := Lib.hid (fun W => few_any a A1 A2 k1 k2 W)
  have HX := Lib.hid (heap_alloc_new w (.cells #[.string ⟨a.tag.toArray⟩, .int .i64 a.kind, .string ⟨a.mbox.toArray⟩, .slice A1 a.set.length k1, .int .i64 a.items, .int .i64 a.mode, .bool a.silent, .int .u8 a.flags, .slice A2 a.data.length k2] 27))
  have HB := Lib.hid (below_al w (.cells #[.string ⟨a.tag.toArray⟩, .int .i64 a.kind, .string ⟨a.mbox.toArray⟩, .slice A1 a.set.length k1, .int .i64 a.items, .int .i64 a.mode, .bool a.silent, .int .u8 a.flags, .slice A2 a.data.length k2] 27))
  have hd2 : fewC a = false ∨ (decide ((2000 : Int) < (l.length : Int)) = true ∧ decide (2000 < l.length) = true) := by
    rcases h with h | h
    · exact .inl h
    · exact .inr ⟨by simp; omega, by simpa using h⟩
  have HD := Lib.hid hd2
  clear henv h hd2
  generalize l.length = n at *
  generalize fewC a = fa at *
  unfold ciV at *
  go_enter Tryz.func4, Tryz.ntmps4
  go_upto_region 1 with (fail)
  generalize w.alloc (.cells #[.string ⟨a.tag.toArray⟩, .int .i64 a.kind, .string ⟨a.mbox.toArray⟩, .slice A1 a.set.length k1, .int .i64 a.items, .int .i64 a.mode, .bool a.silent, .int .u8 a.flags, .slice A2 a.data.length k2] 27) = W2 at *
  obtain ⟨x0, x1, x2, x3, x4, x5, x6, x7, x8⟩ := cells9 HX.out
  go_wp2_with fail
  refine (FA.out _).mono ?_
  rintro e w3 ⟨rfl, hb3⟩
  have HB3 := Lib.hid (below_next HB.out hb3)
  clear x0 x1 x2 x3 x4 x5 x6 x7 x8 HX hb3 FA HB
  cases fa with
  | false =>
    clear HD
    go_wp2_with fail
    refine (AL.out _ HB3.out).mono ?_
    rintro e w4 ⟨rfl, hb4⟩
    go_wp2_with fail
    go_ret
    exact ⟨rfl, below_next HB3.out hb4⟩
  | true =>
    obtain ⟨d1, d2⟩ : decide ((2000 : Int) < (n : Int)) = true ∧ decide (2000 < n) = true := by
      rcases HD.out with h | h
      · cases h
      · exact h
    clear HD
    go_wp2_with fail
    refine (AL.out _ HB3.out).mono ?_
    rintro e w4 ⟨rfl, hb4⟩
    go_wp2_with fail
    go_ret
    exact ⟨rfl, below_next HB3.out hb4⟩

set_option maxRecDepth 100000 in
set_option maxHeartbeats 1000000 in
theorem commandValid_any (a : CI) (A1 A2 : Option Addr) (k1 k2 : Nat) (hok : CIok a) (A : Option Addr) (c : Nat) (l : List UInt8) (_hl : l.length ≤ maxLen) (w : World) (henv : Env w) (s1 : SlAt encR 2 w A1 a.set) (s2 : ByAt w.heap.size w A2 k2 a.data) (hA : ByAt w.heap.size w A c l) :
    Calls Tryz.prog 4 #[ciV a A1 A2 k1 k2, .slice A l.length c] w fun e w' => e = .returned (.bool true) ∧ Below w.heap.size w w' := by
  by_cases hfl : fewC a = false ∨ 2000 < l.length
  · exact commandValid_few a A1 A2 k1 k2 A c l w henv hfl
  have hfa : fewC a = true := by
    cases h : fewC a with
    | true => rfl
    | false => exact absurd (.inl h) hfl
  have h2 : ¬ 2000 < l.length := fun h => hfl (.inr h)
  have d1 : decide ((2000 : Int) < (l.length : Int)) = false := by simp; omega
  have d2 : decide (2000 < l.length) = false := by simpa using h2
  have AL := Lib.hid (fun W (hW : Below w.heap.size w W) => alive7_any W (henv.below hW))
  have FA := Lib.hid (fun W => (few_any a A1 A2 k1 k2 W).mono (fun e w' h => (show e = .returned (.bool true) ∧ Below W.heap.size W w' from hfa ▸ h)))
  have PA := Lib.hid (fun W (hW : Below w.heap.size w W) => command_any w.heap.size c A l (by omega) W (henv.below hW) (hA.grow hW))
  have hbd := fewC_all hfa
  have PV := Lib.hid (fun W (hW : Below w.heap.size w W) => valid_any a A1 A2 k1 k2 hok.flags (by omega) (by omega) (by omega) (by omega) W (s1.below hW) ((s2.below hW).mono hW.size))
  have RV := Lib.hid (fun W (hW : Below w.heap.size w W) => rvalid_any a A1 A2 k1 k2 (by omega) (by omega) (by omega) (by omega) W (s1.below hW) ((s2.below hW).mono hW.size))
  rw [validR_eq] at RV
  have HX := Lib.hid (heap_alloc_new w (.cells #[.string ⟨a.tag.toArray⟩, .int .i64 a.kind, .string ⟨a.mbox.toArray⟩, .slice A1 a.set.length k1, .int .i64 a.items, .int .i64 a.mode, .bool a.silent, .int .u8 a.flags, .slice A2 a.data.length k2] 27))
  have HB := Lib.hid (below_al w (.cells #[.string ⟨a.tag.toArray⟩, .int .i64 a.kind, .string ⟨a.mbox.toArray⟩, .slice A1 a.set.length k1, .int .i64 a.items, .int .i64 a.mode, .bool a.silent, .int .u8 a.flags, .slice A2 a.data.length k2] 27))
  have HZ : Hid (_ = w.heap.size + 1) := Lib.hid (World.size_alloc w (.cells #[.string ⟨a.tag.toArray⟩, .int .i64 a.kind, .string ⟨a.mbox.toArray⟩, .slice A1 a.set.length k1, .int .i64 a.items, .int .i64 a.mode, .bool a.silent, .int .u8 a.flags, .slice A2 a.data.length k2] 27))
  have HL := Lib.hid (fun c b (h : IsCmd l c b) => (⟨h.bd (by omega), h.valid (by omega)⟩ : (c.set.length ≤ 9001 ∧ c.data.length ≤ 9000) ∧ (b = true → validC (ciOf c) = true ∧ c.tag.length ≤ 9000)))
  clear hA h2 henv hfa hfl hbd s1 s2 hok
  generalize l.length = n at *
  unfold ciV at *
  go_enter Tryz.func4, Tryz.ntmps4
  go_upto_region 1 with (fail)
  generalize w.alloc (.cells #[.string ⟨a.tag.toArray⟩, .int .i64 a.kind, .string ⟨a.mbox.toArray⟩, .slice A1 a.set.length k1, .int .i64 a.items, .int .i64 a.mode, .bool a.silent, .int .u8 a.flags, .slice A2 a.data.length k2] 27) = W2 at *
  obtain ⟨x0, x1, x2, x3, x4, x5, x6, x7, x8⟩ := cells9 HX.out
  go_wp2_with fail
  refine (FA.out _).mono ?_
  rintro e w3 ⟨rfl, hb3⟩
  have HB3 := Lib.hid (below_next HB.out hb3)
  have hs3 := hb3.size
  have HX3 := Lib.hid ((hb3.block w.heap.size (by have := HZ.out; omega)).trans HX.out)
  have HZ3 : Hid (w.heap.size + 1 ≤ w3.heap.size) := Lib.hid (by have := HZ.out; omega)
  clear x0 x1 x2 x3 x4 x5 x6 x7 x8 HX hb3 FA HB hs3 HZ
  go_wp2_with fail
  refine (PA.out _ HB3.out).mono ?_
  rintro e w4 ⟨cm, ok, v, hi, rfl, ⟨⟨_, _, rfl, ⟨A3, k3, rfl, h1a, h1b⟩, A4, k4, rfl, h2a, h2b⟩, _⟩, hb4⟩
  have BD := Lib.hid (HL.out cm ok hi)
  have b45 := below_al w4 (.cells (cmdA cm (.slice A3 cm.set.length k3) (.slice A4 cm.data.length k4)) 27)
  have HX5 := Lib.hid ((b45.block w.heap.size (by have := HZ3.out; have := hb4.size; omega)).trans ((hb4.block w.heap.size (by have := HZ3.out; omega)).trans HX3.out))
  have HY5 := Lib.hid (heap_alloc_new w4 (.cells (cmdA cm (.slice A3 cm.set.length k3) (.slice A4 cm.data.length k4)) 27))
  have HB5 := Lib.hid (below_next (below_next HB3.out hb4) b45)
  have HS1 := Lib.hid (h1b.below b45)
  have HS2 := Lib.hid (ByAt.of_sl (h2b.below b45) h2a)
  have hs5 : w4.heap.size + 1 = _ := (World.size_alloc w4 (.cells (cmdA cm (.slice A3 cm.set.length k3) (.slice A4 cm.data.length k4)) 27)).symm
  have HZ5 : Hid (w.heap.size + 1 ≤ w4.heap.size) := Lib.hid (by have := HZ3.out; have := hb4.size; omega)
  unfold cmdA at *
  clear hb4 b45 h1a h1b h2a h2b hi HL PA HX3 HZ3 HB3
  go_upto_region 4 with (fail)
  rename_i K hK
  generalize w4.alloc (.cells #[.string ⟨cm.tag.toArray⟩, .int .i64 (cm.kind : Int), .string ⟨cm.mbox.toArray⟩, .slice A3 cm.set.length k3, .int .i64 (cm.items : Int), .int .i64 (cm.mode : Int), .bool cm.silent, .int .u8 (cm.flags : Int), .slice A4 cm.data.length k4] 27) = w5 at *
  have C0 : CvS w w5 w.heap.size w4.heap.size #[.string ⟨a.tag.toArray⟩, .int .i64 a.kind, .string ⟨a.mbox.toArray⟩, .slice A1 a.set.length k1, .int .i64 a.items, .int .i64 a.mode, .bool a.silent, .int .u8 a.flags, .slice A2 a.data.length k2] #[.string ⟨cm.tag.toArray⟩, .int .i64 (cm.kind : Int), .string ⟨cm.mbox.toArray⟩, .slice A3 cm.set.length k3, .int .i64 (cm.items : Int), .int .i64 (cm.mode : Int), .bool cm.silent, .int .u8 (cm.flags : Int), .slice A4 cm.data.length k4] w5 := ⟨HX5.out, HY5.out, HB5.out, Below.refl _ _, by have := HZ5.out; omega, by omega⟩
  have C1 := Lib.hid (C0.below (drewN_below7 w5 1))
  have PD : Hid (ok = true → ∀ W, Below w5.heap.size w5 W → Calls Tryz.prog 14 #[.agg #[.string ⟨cm.tag.toArray⟩, .int .i64 (cm.kind : Int), .string ⟨cm.mbox.toArray⟩, .slice A3 cm.set.length k3, .int .i64 (cm.items : Int), .int .i64 (cm.mode : Int), .bool cm.silent, .int .u8 (cm.flags : Int), .slice A4 cm.data.length k4]] W fun e w' => e = .returned (.bool true) ∧ Below W.heap.size W w') := Lib.hid (fun hq W hW => by
    obtain ⟨⟨b1, b2⟩, b3⟩ := BD.out
    obtain ⟨b4, b5⟩ := b3 hq
    obtain ⟨b6, b7, b8⟩ := validC_bd b4
    have h := valid_any (ciOf cm) A3 A4 k3 k4 ⟨by simp [ciOf], by omega⟩ (Nat.le_trans b5 (by omega)) (Nat.le_trans b6 (by omega)) (Nat.le_trans b1 (by omega)) (Nat.le_trans b2 (by omega)) W (HS1.out.below hW) ((HS2.out.below hW).mono hW.size)
    rw [b4] at h
    exact h)
  have RD : Hid (ok = true → ∀ W, Below w5.heap.size w5 W → Calls Tryz.prog 15 #[.agg #[.string ⟨cm.tag.toArray⟩, .int .i64 (cm.kind : Int), .string ⟨cm.mbox.toArray⟩, .slice A3 cm.set.length k3, .int .i64 (cm.items : Int), .int .i64 (cm.mode : Int), .bool cm.silent, .int .u8 (cm.flags : Int), .slice A4 cm.data.length k4]] W fun e w' => e = .returned (.bool true) ∧ Below W.heap.size W w') := Lib.hid (fun hq W hW => by
    obtain ⟨⟨b1, b2⟩, b3⟩ := BD.out
    obtain ⟨b4, b5⟩ := b3 hq
    obtain ⟨b6, b7, b8⟩ := validC_bd b4
    have h := rvalid_any (ciOf cm) A3 A4 k3 k4 (Nat.le_trans b5 (by omega)) (Nat.le_trans b6 (by omega)) (Nat.le_trans b1 (by omega)) (Nat.le_trans b2 (by omega)) W (HS1.out.below hW) ((HS2.out.below hW).mono hW.size)
    rw [validR_eq, b4] at h
    exact h)
  clear HX5 HY5 HB5 HS1 HS2 hs5 HZ5 BD C0
  generalize hva : Value.agg #[.string ⟨a.tag.toArray⟩, .int .i64 a.kind, .string ⟨a.mbox.toArray⟩, .slice A1 a.set.length k1, .int .i64 a.items, .int .i64 a.mode, .bool a.silent, .int .u8 a.flags, .slice A2 a.data.length k2] = va at *
  generalize hvd : Value.agg #[.string ⟨cm.tag.toArray⟩, .int .i64 (cm.kind : Int), .string ⟨cm.mbox.toArray⟩, .slice A3 cm.set.length k3, .int .i64 (cm.items : Int), .int .i64 (cm.mode : Int), .bool cm.silent, .int .u8 (cm.flags : Int), .slice A4 cm.data.length k4] = vd at *
  have LA := Lib.hid (fun W (h : CvS w w5 w.heap.size w4.heap.size #[.string ⟨a.tag.toArray⟩, .int .i64 a.kind, .string ⟨a.mbox.toArray⟩, .slice A1 a.set.length k1, .int .i64 a.items, .int .i64 a.mode, .bool a.silent, .int .u8 a.flags, .slice A2 a.data.length k2] #[.string ⟨cm.tag.toArray⟩, .int .i64 (cm.kind : Int), .string ⟨cm.mbox.toArray⟩, .slice A3 cm.set.length k3, .int .i64 (cm.items : Int), .int .i64 (cm.mode : Int), .bool cm.silent, .int .u8 (cm.flags : Int), .slice A4 cm.data.length k4] W) => load9 h.1 ⟨_, rfl⟩ ⟨_, rfl⟩ ⟨_, rfl⟩ ⟨_, _, _, rfl⟩ ⟨_, rfl⟩ ⟨_, rfl⟩ ⟨_, rfl⟩ ⟨_, rfl⟩ ⟨_, _, _, rfl⟩)
  have LD := Lib.hid (fun W (h : CvS w w5 w.heap.size w4.heap.size #[.string ⟨a.tag.toArray⟩, .int .i64 a.kind, .string ⟨a.mbox.toArray⟩, .slice A1 a.set.length k1, .int .i64 a.items, .int .i64 a.mode, .bool a.silent, .int .u8 a.flags, .slice A2 a.data.length k2] #[.string ⟨cm.tag.toArray⟩, .int .i64 (cm.kind : Int), .string ⟨cm.mbox.toArray⟩, .slice A3 cm.set.length k3, .int .i64 (cm.items : Int), .int .i64 (cm.mode : Int), .bool cm.silent, .int .u8 (cm.flags : Int), .slice A4 cm.data.length k4] W) => load9 h.2.1 ⟨_, rfl⟩ ⟨_, rfl⟩ ⟨_, rfl⟩ ⟨_, _, _, rfl⟩ ⟨_, rfl⟩ ⟨_, rfl⟩ ⟨_, rfl⟩ ⟨_, rfl⟩ ⟨_, _, _, rfl⟩)
  rw [hva] at LA
  rw [hvd] at LD
  generalize (#[.string ⟨a.tag.toArray⟩, .int .i64 a.kind, .string ⟨a.mbox.toArray⟩, .slice A1 a.set.length k1, .int .i64 a.items, .int .i64 a.mode, .bool a.silent, .int .u8 a.flags, .slice A2 a.data.length k2] : Array Value) = ca at *
  generalize (#[.string ⟨cm.tag.toArray⟩, .int .i64 (cm.kind : Int), .string ⟨cm.mbox.toArray⟩, .slice A3 cm.set.length k3, .int .i64 (cm.items : Int), .int .i64 (cm.mode : Int), .bool cm.silent, .int .u8 (cm.flags : Int), .slice A4 cm.data.length k4] : Array Value) = cd at *
  generalize validC a = q at *
  clear hva hvd
  cases ok with
  | true =>
    have ST := fun T hT2 hT5 hT6 => cv_step va vd q (.pointer (some ⟨w.heap.size, 0, none⟩)) (.pointer (some ⟨w4.heap.size, 0, none⟩)) T hT2 hT5 hT6 (CvS w w5 w.heap.size w4.heap.size ca cd) LA.out
      (fun W h => (AL.out W h.2.2.1).mono fun e w' q => ⟨q.1, h.below q.2⟩)
      (fun W h => (PV.out W h.2.2.1).mono fun e w' q => ⟨q.1, h.below q.2⟩)
      (fun W h => (RV.out W h.2.2.1).mono fun e w' q => ⟨q.1, h.below q.2⟩)
      LD.out
      (fun W h => (PD.out rfl W h.2.2.2.1).mono fun e w' q => ⟨q.1, h.below q.2⟩)
      (fun W h => (RD.out rfl W h.2.2.2.1).mono fun e w' q => ⟨q.1, h.below q.2⟩)
    clear AL PV RV PD RD LA LD
    refine drawn_region (ops := cvOps) (anc := dahead cvOps) (V := cvV va vd q) (S := fun _ W => CvS w w5 w.heap.size w4.heap.size ca cd W) (R := fun _ _ => False) (by kernel_rfl) cv_fit C1.out (ST _ rfl rfl rfl) (fun c a w' _ _ _ h => h.elim) (fun w' h => ?_)
    refine hK _ _ ?_
    clear ST C1
    have HB := Lib.hid h.2.2.1
    clear h
    go_wp2_with fail
    refine bodyPost_ret (v := .bool true) (by simp [results, Tryz.results4, go_sem]; kernel_rfl) rfl ⟨rfl, HB.out⟩
  | false =>
    have ST := fun T hT2 hT6 => cw_step va q (.pointer (some ⟨w.heap.size, 0, none⟩)) T hT2 hT6 (CvS w w5 w.heap.size w4.heap.size ca cd) LA.out
      (fun W h => (AL.out W h.2.2.1).mono fun e w' q => ⟨q.1, h.below q.2⟩)
      (fun W h => (PV.out W h.2.2.1).mono fun e w' q => ⟨q.1, h.below q.2⟩)
      (fun W h => (RV.out W h.2.2.1).mono fun e w' q => ⟨q.1, h.below q.2⟩)
    clear AL PV RV PD RD LA LD
    refine drawn_region (ops := cvOps) (anc := dahead cvOps) (V := cwV va q) (S := fun _ W => CvS w w5 w.heap.size w4.heap.size ca cd W) (R := fun _ _ => False) (by kernel_rfl) cv_fit C1.out (ST _ rfl rfl) (fun c a w' _ _ _ h => h.elim) (fun w' h => ?_)
    refine hK _ _ ?_
    clear ST C1
    have HB := Lib.hid h.2.2.1
    clear h
    go_wp2_with fail
    refine bodyPost_ret (v := .bool true) (by simp [results, Tryz.results4, go_sem]; kernel_rfl) rfl ⟨rfl, HB.out⟩
end Go.Proofs.YthfopimgdikpgaaGreatDoor
