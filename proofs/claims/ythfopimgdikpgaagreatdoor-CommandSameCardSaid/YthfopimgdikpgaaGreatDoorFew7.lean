/- The reference of layer 7: Few. -/
import Derived.Test.YthfopimgdikpgaaGreatDoorLiftC
namespace Go.Proofs.YthfopimgdikpgaaGreatDoor
open Go.RowKit

def fewC (a : CI) : Bool := decide (a.tag.length ≤ 100) && (decide (a.mbox.length ≤ 300) && (decide (a.set.length ≤ 60) && decide (a.data.length ≤ 500)))
set_option maxRecDepth 100000 in
set_option maxHeartbeats 1000000 in
theorem few_any (a : CI) (A1 A2 : Option Addr) (k1 k2 : Nat) (w : World) :
    Calls Tryz.prog 13 #[ciV a A1 A2 k1 k2] w fun e w' => e = .returned (.bool (fewC a)) ∧ Below w.heap.size w w' := by
  have HB := Lib.hid (below_al w (.cells #[.string ⟨a.tag.toArray⟩, .int .i64 a.kind, .string ⟨a.mbox.toArray⟩, .slice A1 a.set.length k1, .int .i64 a.items, .int .i64 a.mode, .bool a.silent, .int .u8 a.flags, .slice A2 a.data.length k2] 27))
  have sz0 : (ByteArray.mk a.tag.toArray).size = a.tag.length := by show a.tag.toArray.size = _; simp
  have sz2 : (ByteArray.mk a.mbox.toArray).size = a.mbox.length := by show a.mbox.toArray.size = _; simp
  have g0 : decide ((a.tag.length : Int) ≤ 100) = decide (a.tag.length ≤ 100) := by rw [decide_eq_decide]; omega
  have g2 : decide ((a.mbox.length : Int) ≤ 300) = decide (a.mbox.length ≤ 300) := by rw [decide_eq_decide]; omega
  have g3 : decide ((a.set.length : Int) ≤ 60) = decide (a.set.length ≤ 60) := by rw [decide_eq_decide]; omega
  have g8 : decide ((a.data.length : Int) ≤ 500) = decide (a.data.length ≤ 500) := by rw [decide_eq_decide]; omega
  unfold ciV fewC
  generalize h0 : decide (a.tag.length ≤ 100) = d0 at *
  generalize h2 : decide (a.mbox.length ≤ 300) = d2 at *
  generalize h3 : decide (a.set.length ≤ 60) = d3 at *
  generalize h8 : decide (a.data.length ≤ 500) = d8 at *
  cases d0
  · go_enter Tryz.func13, Tryz.ntmps13
    go_wp2_with fail
    go_ret
    exact ⟨rfl, HB.out⟩
  cases d2
  · go_enter Tryz.func13, Tryz.ntmps13
    go_wp2_with fail
    go_ret
    exact ⟨rfl, HB.out⟩
  cases d3
  · go_enter Tryz.func13, Tryz.ntmps13
    go_wp2_with fail
    go_ret
    exact ⟨rfl, HB.out⟩
  cases d8
  all_goals
    go_enter Tryz.func13, Tryz.ntmps13
    go_wp2_with fail
    go_ret
    exact ⟨rfl, HB.out⟩
end Go.Proofs.YthfopimgdikpgaaGreatDoor
