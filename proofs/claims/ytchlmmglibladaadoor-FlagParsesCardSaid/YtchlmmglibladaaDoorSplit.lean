/- strings.SplitSeq at a separator of one byte. -/
import Derived.Test.YtchlmmglibladaaDoorRangeIt
import Derived.Test.YtchlmmglibladaaDoorSplitMath
import Derived.Test.YtchlmmglibladaaDoorShelf
import Derived.Shelf.Abstract
import Derived.Lib.Hide
import Derived.Shelf.Strings.Search3
import Derived.WalkKit
import Derived.OwnWalkIn
import Derived.TacticsInMore
import Derived.LoopNIn
import Derived.LoopIn
import Derived.Maps.AppendAt
namespace Go.Proofs.YtchlmmglibladaaDoor
open Go.RowKit Go.Shelf
attribute [local go_sem] Oper.semAt_some

/-- A string of a modest length: what a round is handed. -/
abbrev SB := { s : ByteArray // s.size ≤ 1000000000 }
/-- What a round keeps: the boxes of strings and of ints. -/
def KeepsS (A B : World) : Prop := KeepsT 9 A B ∧ KeepsT 3 A B
/-- What the iterator does between two rounds: it writes its string's box. -/
def WritesS (sb : Nat) (A B : World) : Prop := ∃ t u, Boxed A sb 9 t ∧ B = A.setCell ⟨sb, 0, none⟩ u

open Classical in
/-- How long the string in a box is, read off the world: for the loop's measure. -/
noncomputable def leftS (sb : Nat) (W : World) : Nat := match W.cell? ⟨sb, 0, none⟩ with
  | some (.string t) => t.size
  | _ => 0

theorem left_boxed {sb : Nat} {W : World} {T : TypeId} {t : ByteArray} (h : Boxed W sb T (.string t)) : leftS sb W = t.size := by
  unfold leftS; rw [h.cell]
theorem extract_take (t : ByteArray) (o : Nat) : (t.extract 0 o).data.toList = t.data.toList.take o := by
  rw [ByteArray.data_extract, Array.toList_extract]; simp
theorem extract_drop (t : ByteArray) (o : Nat) : (t.extract o t.size).data.toList = t.data.toList.drop o := by
  rw [ByteArray.data_extract, Array.toList_extract]
  exact List.take_of_length_le (by rw [List.length_drop, Array.length_toList]; exact Nat.le_refl _)

set_option maxRecDepth 100000 in
set_option maxHeartbeats 2000000 in
theorem split1_in (n : Nat) (hn : 1 ≤ n) (l q sb v : Nat) (c : UInt8) (s0 : ByteArray) (hlen : s0.size ≤ 1000000000) (J Jx : List SB → World → Prop) (hJi : ∀ s A B, J s A → WritesS sb A B → J s B)
    (hY : ∀ (pre : List SB) (x : SB) (W : World), J pre W → pre.length < (splitL c s0.data.toList).length → YieldAt Fence.wide (n - 1) Tryd.prog l #[.string x.1] W fun e W' =>
      (e = .returned (.bool true) ∧ J (pre ++ [x]) W' ∧ KeepsS W W') ∨ (e = .returned (.bool false) ∧ Jx (pre ++ [x]) W'))
    (W : World) (hq : Boxed W q 9 (.string ⟨#[c]⟩)) (hs : Boxed W sb 9 (.string s0)) (hv : Boxed W v 3 (.int .i64 0)) (hne : q ≠ sb) (h0 : J [] W) :
    CallsIn Fence.wide n Tryd.prog 43 #[.func (.yield l) #[] #[], .pointer (some ⟨q, 0, none⟩), .pointer (some ⟨sb, 0, none⟩), .pointer (some ⟨v, 0, none⟩)] W fun e W' => (∃ v, e = .returned v) ∧
      ((∃ ys : List SB, ys.map (fun s => s.1.data.toList) = splitL c s0.data.toList ∧ J ys W') ∨ (∃ pre : List SB, (∃ rest, pre.map (fun s => s.1.data.toList) ++ rest = splitL c s0.data.toList) ∧ Jx pre W')) := by
  refine callsIn_of_wp Tryd.func43 rfl trivial ?_ rfl
  simp only [Tryd.ntmps43, List.size_toArray, List.length_cons, List.length_nil, Nat.reduceAdd, Nat.reduceSub, Array.replicate_succ, Array.replicate_zero, List.push_toArray, List.append_toArray, List.nil_append, List.cons_append]
  have hqc := hq.cell
  gi_wp2
  gi_loopw [7] (fun _ wr => ∃ (pre : List SB) (t : ByteArray), pre.map (fun s => s.1.data.toList) ++ splitL c t.data.toList = splitL c s0.data.toList ∧ t.size ≤ 1000000000 ∧ J pre wr ∧
      Boxed wr q 9 (.string ⟨#[c]⟩) ∧ Boxed wr sb 9 (.string t) ∧ Boxed wr v 3 (.int .i64 0))
    (fun _ wr => leftS sb wr)
  case atStart => exact ⟨[], s0, rfl, hlen, h0, hq, hs, hv⟩
  case round =>
    obtain ⟨pre, t, hsp, htl, hJ, hq1, hs1, hv1⟩ := hrel
    have hcq := hq1.cell
    have hcs := hs1.cell
    have hfs := hs1.frozen
    have hcv := hv1.cell
    have IX := Lib.hid (show Calls Tryd.prog 45 #[.string t, .string ⟨#[c]⟩] wr _ from Any.strings_Index_one Tryd.lays143 t c wr)
    have hpl : pre.length < (splitL c s0.data.toList).length := by
      rw [← hsp, List.length_append, List.length_map]
      have : 0 < (splitL c t.data.toList).length := List.length_pos_iff.2 (splitL_ne c _)
      omega
    have HSP := Lib.hid hsp
    have HQ := Lib.hid hq1
    have HS := Lib.hid hs1
    have HV := Lib.hid hv1
    clear hsp hq1 hs1 hv1 hqc hq hs hv h0
    by_cases hneg : Lib.indexByte t.data.toList c < 0
    · obtain ⟨he, hnm⟩ := index_neg hneg
      rw [he] at IX
      clear he hneg
      have HSN := Lib.hid (splitL_none hnm)
      clear hnm
      obtain ⟨fn, tmps, assign, body, hy, hR⟩ := hY pre ⟨t, htl⟩ wr hJ hpl
      dsimp only at hy
      clear hY
      gi_wp2_with fail
      refine ⟨trivial, ?_⟩
      refine (callsIn_wide.2 IX.out).mono ?_
      rintro e w' ⟨rfl, rfl⟩
      clear IX
      gi_wp2
      refine hR.mono ?_
      rintro e W3 (⟨rfl, hJ3, -⟩ | ⟨rfl, hJx3⟩)
      · gi_wp2
        go_end0
        exact ⟨⟨_, rfl⟩, .inl ⟨_, by rw [List.map_append, ← HSP.out, HSN.out]; rfl, hJ3⟩⟩
      · gi_wp2
        go_end0
        exact ⟨⟨_, rfl⟩, .inr ⟨_, ⟨[], by rw [List.map_append, List.append_nil, ← HSP.out, HSN.out]; rfl⟩, hJx3⟩⟩
    · obtain ⟨o, he, ho, hnm, hcat⟩ := index_nat hneg
      rw [he] at IX
      clear he hneg
      have hos : o < t.size := by rw [Array.length_toList] at ho; exact ho
      obtain ⟨fn, tmps, assign, body, hy, hR⟩ := hY pre ⟨t.extract 0 o, by rw [ByteArray.size_extract]; omega⟩ wr hJ hpl
      dsimp only at hy
      clear hY
      gi_wp2_with fail
      refine ⟨trivial, ?_⟩
      refine (callsIn_wide.2 IX.out).mono ?_
      rintro e w' ⟨rfl, rfl⟩
      clear IX
      gi_wp2
      refine hR.mono ?_
      rintro e W3 (⟨rfl, hJ3, hk3⟩ | ⟨rfl, hJx3⟩)
      · have hcq3 := (show Boxed W3 q _ _ from hk3.1.box HQ.out).cell
        have hs3 : Boxed W3 sb 9 (.string t) := hk3.1.box HS.out
        have hcs3 := hs3.cell
        have hfs3 := hs3.frozen
        have HQ3 := Lib.hid (show Boxed W3 q 9 (.string ⟨#[c]⟩) from hk3.1.box HQ.out)
        have HV3 := Lib.hid (show Boxed W3 v 3 (.int .i64 0) from hk3.2.box HV.out)
        have HS3 := Lib.hid hs3
        have HJ3 := Lib.hid hJ3
        clear hcq hcs hfs hcv HQ HV hs3 hk3 hJ3 hJ
        gi_wp2
        go_roundw
        case rel =>
          refine ⟨pre ++ [⟨t.extract 0 o, by rw [ByteArray.size_extract]; omega⟩], t.extract (o + 1) t.size, ?_, ?_, hJi _ _ _ HJ3.out ⟨_, _, HS3.out, rfl⟩, ?_, HS3.out.set _, ?_⟩
          · rw [List.map_append, List.append_assoc, ← HSP.out, extract_drop]
            congr 1
            have hx := splitL_at (b := t.data.toList.drop (o + 1)) hnm
            rw [← hcat] at hx
            rw [hx, List.map_cons, List.map_nil, extract_take]
            rfl
          · rw [ByteArray.size_extract]; omega
          · exact HQ3.out.kept (grownBy_setCell' _ _ _) (by simp [hne])
          · refine HV3.out.kept (grownBy_setCell' _ _ _) (fun e => ?_)
            injection e with e
            subst e
            have := (show W3.heap[v]? = _ from HV3.out).symm.trans HS3.out
            simp at this
        case measure =>
          rw [left_boxed HS.out, left_boxed (HS3.out.set _), ByteArray.size_extract]
          omega
      · gi_wp2
        refine bodyPost_ret (results_none rfl _ _ _) rfl ?_
        refine ⟨⟨_, rfl⟩, .inr ⟨_, ⟨splitL c (t.data.toList.drop (o + 1)), ?_⟩, hJx3⟩⟩
        rw [List.map_append, List.append_assoc, ← HSP.out]
        congr 1
        have hx := splitL_at (b := t.data.toList.drop (o + 1)) hnm
        rw [← hcat] at hx
        rw [hx, List.map_cons, List.map_nil, extract_take]
        rfl

/-- strings.splitSeq: three boxes: the string, the separator, what is kept of it. -/
theorem splitSeq_any (s sep : ByteArray) (w : World) :
    Calls Tryd.prog 31 #[.string s, .string sep, .int .i64 0] w fun e w' =>
      e = .returned (.func (.func 43) #[] #[.pointer (some ⟨w.heap.size + 1, 0, none⟩), .pointer (some ⟨w.heap.size, 0, none⟩), .pointer (some ⟨w.heap.size + 2, 0, none⟩)]) ∧
      w' = ((w.alloc (.cells #[.string s] 9)).alloc (.cells #[.string sep] 9)).alloc (.cells #[.int .i64 0] 3) := by
  go_enter Tryd.func31, Tryd.ntmps31
  go_wp2_with fail
  go_ret
  exact ⟨rfl, rfl⟩
theorem SplitSeq_any (s sep : ByteArray) (w : World) :
    Calls Tryd.prog 24 #[.string s, .string sep] w fun e w' =>
      e = .returned (.func (.func 43) #[] #[.pointer (some ⟨w.heap.size + 1, 0, none⟩), .pointer (some ⟨w.heap.size, 0, none⟩), .pointer (some ⟨w.heap.size + 2, 0, none⟩)]) ∧
      w' = ((w.alloc (.cells #[.string s] 9)).alloc (.cells #[.string sep] 9)).alloc (.cells #[.int .i64 0] 3) := by
  go_enter Tryd.func24, Tryd.ntmps24
  go_wp2_with fail
  refine (splitSeq_any _ _ _).mono ?_
  rintro e w' ⟨rfl, rfl⟩
  go_wp2_with fail
  go_ret
  exact ⟨rfl, rfl⟩

theorem split_does (n : Nat) (hn : 1 ≤ n) (q sb v : Nat) (c : UInt8) (s0 : ByteArray) (hlen : s0.size ≤ 1000000000) (w : World)
    (hq : Boxed w q 9 (.string ⟨#[c]⟩)) (hs : Boxed w sb 9 (.string s0)) (hv : Boxed w v 3 (.int .i64 0)) (hne : q ≠ sb) :
    SeqDoes Fence.wide n Tryd.prog 43 #[.pointer (some ⟨q, 0, none⟩), .pointer (some ⟨sb, 0, none⟩), .pointer (some ⟨v, 0, none⟩)] (fun x : SB => #[Value.string x.1]) KeepsS (WritesS sb)
      (fun ys => ys.map (fun s => s.1.data.toList) = splitL c s0.data.toList) (fun pre => ∃ rest, pre.map (fun s => s.1.data.toList) ++ rest = splitL c s0.data.toList) (splitL c s0.data.toList).length w := fun l J Jx W hW hJi hY h0 =>
  split1_in n hn l q sb v c s0 hlen J Jx hJi hY W ((hW.block q hq.lt).trans hq) ((hW.block sb hs.lt).trans hs) ((hW.block v hv.lt).trans hv) hne h0
end Go.Proofs.YtchlmmglibladaaDoor
