/- seqset: printNumber, printRange, Print. -/
import Derived.Test.YtdgcghcigjblaaaDoorSeqA
import Derived.Test.YtdgcghcigjblaaaDoorFormN
import Derived.Test.YtdgcghcigjblaaaDoorSlEqU
import Derived.Test.YtdgcghcigjblaaaDoorBuilder
import Derived.Lib.QuietBelow
import Derived.BigQuiet
namespace Go.Proofs.YtdgcghcigjblaaaDoor
open Go.RowKit Go.Shelf Go.Sort

set_option maxHeartbeats 400000 in
theorem printNumber_any (n : Nat) (hn : n ≤ 4294967295) (w : World) (henv : Env w) :
    Calls Tryd.prog 39 #[.int .u32 n] w fun e w' => e = .returned (.string ⟨(formN n).toArray⟩) ∧ Below w.heap.size w w' := by
  unfold formN
  by_cases h0 : n = 0
  · subst h0
    clear henv
    go_enter Tryd.func39, Tryd.ntmps39
    go_wp2
    go_ret
    exact ⟨rfl, Below.refl _ _⟩
  · have D := Lib.hid (decimal_any n hn w henv)
    rw [if_neg h0]
    clear henv
    generalize Lib.decDigits n = d at *
    have h3 : ¬ (n : Int) = 0 := by omega
    go_enter Tryd.func39, Tryd.ntmps39
    go_wp2_with fail
    refine D.out.mono ?_
    rintro e w1 ⟨rfl, hb⟩
    go_wp2_with fail
    go_ret
    exact ⟨rfl, hb⟩

theorem eqlR : EqlAt Tryd.prog 32 (fun x => .agg (encR x).toArray) (fun x y => x.1 == y.1 && x.2 == y.2) := by
  refine ⟨fun x y w => ?_, GuardAt.agg _ (by kernel_rfl)⟩
  have u3 := Tryd.underlying30
  have a3 := Tryd.isAgg30
  have z3 := Tryd.sizeOf30
  have hS : Tryd.prog.underlying 32 = some (.struct (Tryd.prog.fieldsOf 32)) := by kernel_rfl
  have hp : Tryd.prog.stoodInHeld 32 = false := by kernel_rfl
  simp only [encR]
  rw [run_eql_struct, show (10000 : Nat) = 9999 + 1 from rfl, run_equalIn_agg w 9999 32 _ _ hS hp]
  simp only [Program.fieldsOf, Tryd.underlying32]
  have e1 : ((x.fst : Int) = (y.fst : Int)) = (x.fst = y.fst) := propext ⟨by omega, by omega⟩
  have e2 : ((x.snd : Int) = (y.snd : Int)) = (x.snd = y.snd) := propext ⟨by omega, by omega⟩
  go_simp
  by_cases h1 : x.fst = y.fst <;> by_cases h2 : x.snd = y.snd <;> simp [h1, h2]

/-- The form of a range. -/
def formR (r : R) : List UInt8 := if r.1 = r.2 then formN r.1 else formN r.1 ++ 58 :: formN r.2
theorem formR_len {r : R} (h1 : r.1 ≤ 4294967295) (h2 : r.2 ≤ 4294967295) : (formR r).length ≤ 21 := by
  have a := (formN_len h1).1
  have b := (formN_len h2).1
  unfold formR
  split
  · omega
  · simp; omega

/-- A contract that ends in 'Below', met inside a region that draws its order. -/
theorem qb {F : FuncId} {args : Array Value} {w : World} {v : Value} (h : ∀ w1, Below w.heap.size w w1 → Calls Tryd.prog F args w1 fun e w' => e = .returned v ∧ Below w1.heap.size w1 w') (d : Nat) (os : Array Obj) :
    Calls Tryd.prog F args (grow (redrawn w d) os) fun e w'' => e = .returned v ∧ ∃ p : Regrown, w'' = grow (redrawn w p.d) p.os := Calls.regrown_of (h _ (below_regrown _ _ _))

set_option maxRecDepth 100000 in
set_option maxHeartbeats 2000000 in
theorem printRange_any (lo hi : Nat) (h1 : lo ≤ 4294967295) (h2 : hi ≤ 4294967295) (w : World) (henv : Env w) :
    Calls Tryd.prog 25 #[.agg #[.int .u32 lo, .int .u32 hi]] w fun e w' => e = .returned (.string ⟨(formR (lo, hi)).toArray⟩) ∧ Below w.heap.size w w' := by
  have HW := Below.alloc (Below.refl w.heap.size w) (Nat.le_refl _) (Obj.cells #[.int .u32 (lo : Int), .int .u32 (hi : Int)] 32)
  have cp := qb (w := w.alloc (Obj.cells #[.int .u32 (lo : Int), .int .u32 (hi : Int)] 32)) (fun w1 _ => point_any lo w1)
  have N1 := fun w1 (hB : Below w.heap.size w w1) => Lib.hid (printNumber_any lo h1 w1 (henv.below hB))
  have N2 := fun w1 (hB : Below w.heap.size w w1) => Lib.hid (printNumber_any hi h2 w1 (henv.below hB))
  clear henv
  have k0 := fun d os => cell_regrown (w := w.alloc (Obj.cells #[.int .u32 (lo : Int), .int .u32 (hi : Int)] 32)) (a := ⟨w.heap.size, 0, none⟩) (v := .int .u32 (lo : Int)) (by simp) d os
  have k1 := fun d os => cell_regrown (w := w.alloc (Obj.cells #[.int .u32 (lo : Int), .int .u32 (hi : Int)] 32)) (a := ⟨w.heap.size, 1, none⟩) (v := .int .u32 (hi : Int)) (by simp) d os
  have hq : ∀ W, Sem.run Tryd.prog (binOp .eql 32 (.agg #[.int .u32 (lo : Int), .int .u32 (hi : Int)]) (.agg #[.int .u32 (lo : Int), .int .u32 (lo : Int)])) W = .ok (.bool (lo == lo && hi == lo)) W := fun W => eqlR.1 (lo, hi) (lo, lo) W
  have hg : ∀ (op : BinOp) (a b : Operand) (W : World), Sem.run Tryd.prog (eqGuard op 32 a b (.agg #[.int .u32 (lo : Int), .int .u32 (hi : Int)]) (.agg #[.int .u32 (lo : Int), .int .u32 (lo : Int)])) W = .ok () W := fun op a b W => eqlR.2 op a b (lo, hi) (lo, lo) W
  by_cases he : lo = hi
  · subst he
    have hr : formR (lo, lo) = formN lo := by simp [formR]
    rw [hr]
    clear hr N2
    generalize formN lo = f at *
    simp only [beq_self_eq_true, Bool.and_self] at hq
    go_enter Tryd.func25, Tryd.ntmps25
    go_wp2_with fail
    refine wp_region_quiet_below (by kernel_rfl) (by kernel_rfl) ?_
    repeat (quiet_step (exact cp _ _))
    refine wpQuiet_nil ?_
    intro _ hw'
    obtain ⟨⟨dq, osq⟩, hw''⟩ := hw'
    subst hw''
    have hb : Below w.heap.size w (grow (redrawn (w.alloc (Obj.cells #[.int .u32 (lo : Int), .int .u32 (lo : Int)] 32)) dq) osq) := HW.trans ((below_regrown _ _ _).mono (by simp))
    have k2 := k0 dq osq
    clear k0 k1 hq hg cp HW
    generalize grow (redrawn (w.alloc (Obj.cells #[.int .u32 (lo : Int), .int .u32 (lo : Int)] 32)) dq) osq = W at *
    go_wp2_with fail
    refine (N1 _ hb).out.mono ?_
    rintro e w1 ⟨rfl, hb1⟩
    go_wp2_with fail
    go_ret
    exact ⟨rfl, below_next hb hb1⟩
  · have hr : formR (lo, hi) = formN lo ++ 58 :: formN hi := by simp [formR, he]
    rw [hr]
    have l1 := (formN_len h1).1
    have l2 := (formN_len h2).1
    have hs : (ByteArray.mk (formN lo ++ 58 :: formN hi).toArray) = (ByteArray.mk (formN lo).toArray ++ ByteArray.mk #[58]) ++ ByteArray.mk (formN hi).toArray := by
      apply ByteArray.ext
      simp
    rw [hs]
    clear hr hs
    have m1 : (ByteArray.mk (formN lo).toArray).size ≤ 10 := by simpa [ByteArray.size] using l1
    have m2 : (ByteArray.mk (formN hi).toArray).size ≤ 10 := by simpa [ByteArray.size] using l2
    clear l1 l2
    generalize ByteArray.mk (formN lo).toArray = s1 at *
    generalize ByteArray.mk (formN hi).toArray = s2 at *
    have hb0 : (lo == lo && hi == lo) = false := by simp; omega
    rw [hb0] at hq
    clear hb0
    go_enter Tryd.func25, Tryd.ntmps25
    go_wp2_with fail
    refine wp_region_quiet_below (by kernel_rfl) (by kernel_rfl) ?_
    repeat (quiet_step (exact cp _ _))
    refine wpQuiet_nil ?_
    intro _ hw'
    obtain ⟨⟨dq, osq⟩, hw''⟩ := hw'
    subst hw''
    have hb : Below w.heap.size w (grow (redrawn (w.alloc (Obj.cells #[.int .u32 (lo : Int), .int .u32 (hi : Int)] 32)) dq) osq) := HW.trans ((below_regrown _ _ _).mono (by simp))
    have k2 := k0 dq osq
    have k3 := k1 dq osq
    clear k0 k1 hq hg cp HW
    generalize grow (redrawn (w.alloc (Obj.cells #[.int .u32 (lo : Int), .int .u32 (hi : Int)] 32)) dq) osq = W at *
    have q1 := qb (w := W) (fun w1 hB => (N1 w1 (hb.trans (hB.mono hb.size))).out)
    have q2 := qb (w := W) (fun w1 hB => (N2 w1 (hb.trans (hB.mono hb.size))).out)
    have k0 := fun d os => cell_regrown k2 d os
    have k1 := fun d os => cell_regrown k3 d os
    have n1 : ¬ 9223372036854775807 < s1.size + 1 := by omega
    have n2 : ¬ 9223372036854775807 < s1.size + 1 + s2.size := by omega
    clear N1 N2 k2 k3
    go_wp2_with fail
    refine wp_region_quiet_below (by kernel_rfl) (by kernel_rfl) ?_
    repeat (quiet_step (first | exact q1 _ _ | exact q2 _ _))
    refine wpQuiet_nil ?_
    intro _ hw'
    obtain ⟨⟨dq, osq⟩, hw''⟩ := hw'
    subst hw''
    go_wp2_with fail
    go_ret
    exact ⟨rfl, below_next hb (below_regrown _ _ _)⟩
end Go.Proofs.YtdgcghcigjblaaaDoor
