/- A range over an iterator that keeps a state of its own in a box (strings.SplitSeq): the law for the caller, where the invariant abides what the iterator writes. -/
import Derived.Test.YtpoejnajnaolpaaGreatDoorGa
import Derived.RangeFuncNested
import Derived.RangeFuncBound
import Derived.RangeFuncCalls
import Derived.RangeFuncLeaves
import Derived.RangeFuncBox
import Derived.Test.YtpoejnajnaolpaaGreatDoorShelf
import Derived.Test.YtpoejnajnaolpaaGreatDoorShelfS
import Derived.Shelf.Abstract
import Derived.Lib.Hide
import Derived.Shelf.Strings.Search3
import Derived.WalkKit
import Derived.OwnWalkIn
import Derived.TacticsInMore
import Derived.LoopNIn
import Derived.LoopIn
import Derived.Maps.AppendAt
import Derived.Lib.Strings
import Derived.Test.YtpoejnajnaolpaaGreatDoorGc
import Derived.Shelf.Small.Wraps
import Derived.Maps.OwnIn
import Derived.Stop.RegionWithIn
namespace Go.Proofs.YtpoejnajnaolpaaGreatDoor
open Go.RowKit

/-- What an iterator is to its caller: It A B: what it may do to the world between two rounds. -/
def SeqDoes {α : Type} (F : Fence) (n : Nat) (P : Program) (g : Nat) (lb : Array Value) (encs : α → Array Value) (Kp It : World → World → Prop) (S Sp : List α → Prop) (N : Nat) (w : World) : Prop :=
  ∀ (l : Nat) (J Jx : List α → World → Prop) (W : World), Below w.heap.size w W → (∀ s A B, J s A → It A B → J s B) →
    (∀ pre x W1, J pre W1 → pre.length < N → YieldAt F (n - 1) P l (encs x) W1 fun e W' =>
      (e = .returned (.bool true) ∧ J (pre ++ [x]) W' ∧ Kp W1 W') ∨ (e = .returned (.bool false) ∧ Jx (pre ++ [x]) W')) →
    J [] W →
    CallsIn F n P g (#[.func (.yield l) #[] #[]] ++ lb) W fun e W' => (∃ v, e = .returned v) ∧ ((∃ xs, S xs ∧ J xs W') ∨ (∃ pre, Sp pre ∧ Jx pre W'))

variable {F : Fence} {n : Nat} {P : Program}

/-- The law: the body's ways out are 'go on' and 'return'. -/
theorem wpIn_rangeFunc_it {α : Type} {g : Operand} {ps : Array Tmp} {assign body : Code} {Q : Exit → Act → World → Prop} {a : Act} {w : World}
    (hro : F.round = none) (h1 : 1 ≤ n) {gf : Nat} {lb : Array Value} (hg : a.eval g = .func (.func gf) #[] lb) (hFg : F.fn gf) (eg : ∀ args w, (callFunc gf args).run P w = .ok (.enter gf args) w)
    {encs : α → Array Value} {Kp It : World → World → Prop} {S Sp : List α → Prop} {N : Nat} {w0 : World} (hseq : SeqDoes F (n - 1) P gf lb encs Kp It S Sp N w0)
    (hKt : ∀ {A B C : World}, Kp A B → Kp B C → Kp A C) (hKb : ∀ (W : World) (l : Nat) (o o' : Obj), w.heap.size ≤ l → W.heap[l]? = some o → o.isCells = false → o.isWalk = false → Kp W (W.putObj l o'))
    (hIt : ∀ (A B : World) (i : Nat) (o : Obj), It A B → A.heap[i]? = some o → o.isCells = false → B.heap[i]? = some o)
    (hb0 : Below w0.heap.size w0 w) (hps : ∀ x, (encs x).size = ps.size)
    (I : List α → World → Prop) (Ix : Code → List α → World → Prop) (hI : OwnFrom w.heap.size I) (hIx : ∀ c, OwnFrom w.heap.size (Ix c)) (hIi : ∀ s A B, I s A → It A B → I s B) (h0 : I [] w) (a₁ : α → Act)
    (hassign : ∀ (l : Nat) (x : α) (W : World) (K : Act → World → Prop), K (a₁ x) W →
      assign.wpIn (F.inRound l) (n - 1 - 1) P (Exit.then K (fun _ _ _ => False)) { tmps := (ps.zip (encs x)).foldl (fun t (p, v) => t.setIfInBounds p v) a.tmps, defers := [] } W)
    (hbody : ∀ (l : Nat) (pre : List α) (x : α) (W : World), I pre W → pre.length < N → body.wpIn (F.inRound l) (n - 1 - 1) P (ownPostG w.heap.size Kp I Ix (pre ++ [x]) W) (a₁ x) W)
    (hdone : ∀ (D : Nat) (xs : List α) (W : World), w.heap.size ≤ D → S xs → I xs W → W.heap[D]? = some (.deferred (some [])) → Q .normal { a with defers := { target := .collected D, args := #[] } :: a.defers } W)
    (hstop : ∀ (D : Nat) (c : Code) (pre : List α) (W : World), w.heap.size ≤ D → Sp pre → Ix c pre W → W.heap[D]? = some (.deferred (some [])) → c.wpIn F n P Q { a with defers := { target := .collected D, args := #[] } :: a.defers } W) :
    (Code.rangeFunc g ps assign body).wpIn F n P Q a w := by
  refine wpIn_rangeFunc ?_
  intro fn hfn
  rw [hro]
  obtain ⟨rec, hrec⟩ : ∃ rec : LoopState → Option Code → Loop, rec = fun st pe => { state := st, pending := pe, fn, tmps := a.tmps, params := ps, assign, body, defers := w.heap.size } := ⟨_, rfl⟩
  obtain ⟨W1, hW1⟩ : ∃ W1, (w.alloc (.deferred (some []))).alloc (.loop (rec .ready none)) = W1 := ⟨_, rfl⟩
  have hL1 : W1.heap[w.heap.size + 1]? = some (.loop (rec .ready none)) := by
    have := World.alloc_heap_new (w.alloc (.deferred (some []))) (.loop (rec .ready none))
    rw [World.size_alloc] at this
    rw [← hW1]; exact this
  have hK1 : W1.heap[w.heap.size]? = some (.deferred (some [])) := by
    rw [← hW1]; exact (Below.heap_alloc _ _ _ (by simp)).trans (World.alloc_heap_new w _)
  have hI1 : I [] W1 := by rw [← hW1]; exact hI.alloc _ (hI.alloc _ h0)
  have hb1 : Below w0.heap.size w0 W1 := by
    rw [← hW1]; exact hb0.trans ((((Below.refl _ w).alloc (Nat.le_refl _) _).alloc (by simp) _).mono hb0.size)
  refine ⟨w.heap.size + 1, [{ target := .collected w.heap.size, args := #[] }], W1, { target := .fn (.func gf) lb, args := #[.func (.yield (w.heap.size + 1)) #[] #[]] }, W1, gf,
    #[.func (.yield (w.heap.size + 1)) #[] #[]] ++ lb, W1, ?_, ?_, ?_, ?_, fun _ => h1, ?_⟩
  · rw [← hW1, hrec]; exact run_enterLoop_outer _ _ _ _ _
  · simp only [resolve, hg]
    simp [go_sem]
  · intro f' hf'; simp [Target.leads] at hf'; subst hf'; exact hFg
  · simp [invoke, go_sem, eg]
  · refine (hseq (w.heap.size + 1)
      (fun pre W => I pre W ∧ W.heap[w.heap.size + 1]? = some (.loop (rec .ready none)) ∧ W.heap[w.heap.size]? = some (.deferred (some [])))
      (fun pre W => ∃ c, Ix c pre W ∧ W.heap[w.heap.size + 1]? = some (.loop (rec .done (some c))) ∧ W.heap[w.heap.size]? = some (.deferred (some [])))
      W1 hb1
      (fun s A B hs hi => ⟨hIi s A B hs.1 hi, hIt A B _ _ hi hs.2.1 rfl, hIt A B _ _ hi hs.2.2 rfl⟩)
      ?_ ⟨hI1, hL1, hK1⟩).mono ?_
    · rintro pre x W ⟨hi, hl, hk⟩ hlen
      have hlt : w.heap.size + 1 < W.heap.size := (Array.getElem?_eq_some_iff.1 hl).1
      have hy := run_yield (P := P) (args := encs x) hl (by rw [hrec]; exact hps x)
      rw [hrec] at hy
      refine ⟨fn, _, assign, body, hy, roundIn_of_wpIn hfn (hassign _ x W _ ⟨_, run_beginRound hl (by rw [hrec]), ?_⟩)⟩
      obtain ⟨Wb, hWb⟩ : ∃ Wb, W.putObj (w.heap.size + 1) (.loop { rec .ready none with state := .busy }) = Wb := ⟨_, rfl⟩
      have hl2 : Wb.heap[w.heap.size + 1]? = some (.loop { rec .ready none with state := .busy }) := by rw [← hWb]; exact World.putObj_heap_same hlt
      have hk2 : Wb.heap[w.heap.size]? = some (.deferred (some [])) := by rw [← hWb]; exact (World.putObj_heap_other (by omega)).trans hk
      have hw2 : Kp W Wb := by rw [← hWb]; exact hKb _ _ _ _ (by omega) hl rfl rfl
      have hib : I pre Wb := by rw [← hWb]; exact hI.putObj _ hi (by omega) hl rfl
      show body.wpIn _ _ _ _ _ (W.putObj (w.heap.size + 1) (.loop { rec .ready none with state := .busy }))
      rw [hWb]
      refine wpIn_mono (hbody _ pre x _ hib hlen) ?_
      have fin : ∀ (jump : Option Code) (W3 : World), KeepsFrom w.heap.size Wb W3 →
          (Instr.endRound (w.heap.size + 1) jump).run P W3 = .ok (.bool jump.isNone) (W3.putObj (w.heap.size + 1) (.loop (rec (if jump.isNone then .ready else .done) jump))) ∧
          W3.heap[w.heap.size + 1]? = some (.loop { rec .ready none with state := .busy }) ∧
          (W3.putObj (w.heap.size + 1) (.loop (rec (if jump.isNone then .ready else .done) jump))).heap[w.heap.size + 1]? = some (.loop (rec (if jump.isNone then .ready else .done) jump)) ∧
          (W3.putObj (w.heap.size + 1) (.loop (rec (if jump.isNone then .ready else .done) jump))).heap[w.heap.size]? = some (.deferred (some [])) := fun jump W3 hk3 => by
        have hl3 := hk3.same _ _ (by omega) hl2 rfl
        have := run_endRound (P := P) jump hl3
        rw [hrec] at this ⊢
        exact ⟨this, by rw [hrec] at hl3; exact hl3, World.putObj_heap_same (Array.getElem?_eq_some_iff.1 hl3).1, (World.putObj_heap_other (by omega)).trans (hk3.same _ _ (Nat.le_refl _) hk2 rfl)⟩
      rintro e a3 W3 hp
      cases e with
      | normal =>
        obtain ⟨hk3, hkp3, hi3⟩ := hp
        obtain ⟨hr, hl3, hl4, hk4⟩ := fin none W3 hk3
        exact ⟨_, _, hr, .inl ⟨rfl, ⟨hI.putObj _ hi3 (by omega) hl3 rfl, hl4, hk4⟩, hKt (hKt hw2 hkp3) (hKb _ _ _ _ (by omega) hl3 rfl rfl)⟩⟩
      | ret =>
        obtain ⟨hk3, hi3⟩ := hp
        obtain ⟨hr, hl3, hl4, hk4⟩ := fin (some .ret) W3 hk3
        exact ⟨_, _, hr, .inr ⟨rfl, .ret, (hIx _).putObj _ hi3 (by omega) hl3 rfl, hl4, hk4⟩⟩
      | exit id =>
        obtain ⟨hk3, hi3⟩ := hp
        obtain ⟨hr, hl3, hl4, hk4⟩ := fin (some (.exit id)) W3 hk3
        exact ⟨_, _, hr, .inr ⟨rfl, .exit id, (hIx _).putObj _ hi3 (by omega) hl3 rfl, hl4, hk4⟩⟩
      | goto t =>
        obtain ⟨hk3, hi3⟩ := hp
        obtain ⟨hr, hl3, hl4, hk4⟩ := fin (some (.goto t)) W3 hk3
        exact ⟨_, _, hr, .inr ⟨rfl, .goto t, (hIx _).putObj _ hi3 (by omega) hl3 rfl, hl4, hk4⟩⟩
      | panic ch => exact hp.elim
      | outgrown => exact hp.elim
    · rintro e W2 ⟨⟨v, rfl⟩, (⟨xs, hS, hi, hl, hk⟩ | ⟨pre, hSp, c, hi, hl, hk⟩)⟩
      · exact ⟨none, _, by have := run_endLoop (P := P) hl (by rw [hrec]; simp); rw [hrec] at this; exact this, hdone _ xs _ (Nat.le_refl _) hS (hI.putObj _ hi (by omega) hl rfl) ((World.putObj_heap_other (by omega)).trans hk)⟩
      · exact ⟨some c, _, by have := run_endLoop (P := P) hl (by rw [hrec]; simp); rw [hrec] at this; exact this, hstop _ c pre _ (Nat.le_refl _) hSp ((hIx c).putObj _ hi (by omega) hl rfl) ((World.putObj_heap_other (by omega)).trans hk)⟩
end Go.Proofs.YtpoejnajnaolpaaGreatDoor

namespace Go.Proofs.YtpoejnajnaolpaaGreatDoor
open Go.RowKit Go.Shelf
attribute [local go_sem] Oper.semAt_some

/-- A string of a modest length: what a round is handed. -/
abbrev SB := { s : ByteArray // s.size ≤ 1000000000 }
/-- What a round keeps: the boxes of strings and of ints. -/
def KeepsS (A B : World) : Prop := KeepsT 9 A B ∧ KeepsT 3 A B
/-- What the iterator does between two rounds: it writes its string's box. -/
def WritesS (sb : Nat) (A B : World) : Prop := ∃ t u, Boxed A sb 9 t ∧ B = A.setCell ⟨sb, 0, none⟩ u

open Classical in
/-- How long the string in a box is, read off the world: for the loop's measure. -/
noncomputable def leftS (sb : Nat) (W : World) : Nat := match W.cell? ⟨sb, 0, none⟩ with
  | some (.string t) => t.size
  | _ => 0

theorem left_boxed {sb : Nat} {W : World} {T : TypeId} {t : ByteArray} (h : Boxed W sb T (.string t)) : leftS sb W = t.size := by
  unfold leftS; rw [h.cell]
theorem extract_take (t : ByteArray) (o : Nat) : (t.extract 0 o).data.toList = t.data.toList.take o := by
  rw [ByteArray.data_extract, Array.toList_extract]; simp
theorem extract_drop (t : ByteArray) (o : Nat) : (t.extract o t.size).data.toList = t.data.toList.drop o := by
  rw [ByteArray.data_extract, Array.toList_extract]
  exact List.take_of_length_le (by rw [List.length_drop, Array.length_toList]; exact Nat.le_refl _)

set_option maxRecDepth 100000 in
set_option maxHeartbeats 2000000 in
theorem split1_in (n : Nat) (hn : 1 ≤ n) (l q sb v : Nat) (c : UInt8) (s0 : ByteArray) (hlen : s0.size ≤ 1000000000) (J Jx : List SB → World → Prop) (hJi : ∀ s A B, J s A → WritesS sb A B → J s B)
    (hY : ∀ (pre : List SB) (x : SB) (W : World), J pre W → pre.length < (splitL c s0.data.toList).length → YieldAt Fence.wide (n - 1) Tryz.prog l #[.string x.1] W fun e W' =>
      (e = .returned (.bool true) ∧ J (pre ++ [x]) W' ∧ KeepsS W W') ∨ (e = .returned (.bool false) ∧ Jx (pre ++ [x]) W'))
    (W : World) (hq : Boxed W q 9 (.string ⟨#[c]⟩)) (hs : Boxed W sb 9 (.string s0)) (hv : Boxed W v 3 (.int .i64 0)) (hne : q ≠ sb) (h0 : J [] W) :
    CallsIn Fence.wide n Tryz.prog 161 #[.func (.yield l) #[] #[], .pointer (some ⟨q, 0, none⟩), .pointer (some ⟨sb, 0, none⟩), .pointer (some ⟨v, 0, none⟩)] W fun e W' => (∃ v, e = .returned v) ∧
      ((∃ ys : List SB, ys.map (fun s => s.1.data.toList) = splitL c s0.data.toList ∧ J ys W') ∨ (∃ pre : List SB, (∃ rest, pre.map (fun s => s.1.data.toList) ++ rest = splitL c s0.data.toList) ∧ Jx pre W')) := by
  refine callsIn_of_wp Tryz.func161 rfl trivial ?_ rfl
  simp only [Tryz.ntmps161, List.size_toArray, List.length_cons, List.length_nil, Nat.reduceAdd, Nat.reduceSub, Array.replicate_succ, Array.replicate_zero, List.push_toArray, List.append_toArray, List.nil_append, List.cons_append]
  have hqc := hq.cell
  gi_wp2
  gi_loopw [7] (fun _ wr => ∃ (pre : List SB) (t : ByteArray), pre.map (fun s => s.1.data.toList) ++ splitL c t.data.toList = splitL c s0.data.toList ∧ t.size ≤ 1000000000 ∧ J pre wr ∧
      Boxed wr q 9 (.string ⟨#[c]⟩) ∧ Boxed wr sb 9 (.string t) ∧ Boxed wr v 3 (.int .i64 0))
    (fun _ wr => leftS sb wr)
  case atStart => exact ⟨[], s0, rfl, hlen, h0, hq, hs, hv⟩
  case round =>
    obtain ⟨pre, t, hsp, htl, hJ, hq1, hs1, hv1⟩ := hrel
    have hcq := hq1.cell
    have hcs := hs1.cell
    have hfs := hs1.frozen
    have hcv := hv1.cell
    have IX := Lib.hid (show Calls Tryz.prog 163 #[.string t, .string ⟨#[c]⟩] wr _ from Any.strings_Index_one Tryz.lays143 t c wr)
    have hpl : pre.length < (splitL c s0.data.toList).length := by
      rw [← hsp, List.length_append, List.length_map]
      have : 0 < (splitL c t.data.toList).length := List.length_pos_iff.2 (splitL_ne c _)
      omega
    have HSP := Lib.hid hsp
    have HQ := Lib.hid hq1
    have HS := Lib.hid hs1
    have HV := Lib.hid hv1
    clear hsp hq1 hs1 hv1 hqc hq hs hv h0
    by_cases hneg : Lib.indexByte t.data.toList c < 0
    · obtain ⟨he, hnm⟩ := index_neg hneg
      rw [he] at IX
      clear he hneg
      have HSN := Lib.hid (splitL_none hnm)
      clear hnm
      obtain ⟨fn, tmps, assign, body, hy, hR⟩ := hY pre ⟨t, htl⟩ wr hJ hpl
      dsimp only at hy
      clear hY
      gi_wp2_with fail
      refine ⟨trivial, ?_⟩
      refine (callsIn_wide.2 IX.out).mono ?_
      rintro e w' ⟨rfl, rfl⟩
      clear IX
      gi_wp2
      refine hR.mono ?_
      rintro e W3 (⟨rfl, hJ3, -⟩ | ⟨rfl, hJx3⟩)
      · gi_wp2
        go_end0
        exact ⟨⟨_, rfl⟩, .inl ⟨_, by rw [List.map_append, ← HSP.out, HSN.out]; rfl, hJ3⟩⟩
      · gi_wp2
        go_end0
        exact ⟨⟨_, rfl⟩, .inr ⟨_, ⟨[], by rw [List.map_append, List.append_nil, ← HSP.out, HSN.out]; rfl⟩, hJx3⟩⟩
    · obtain ⟨o, he, ho, hnm, hcat⟩ := index_nat hneg
      rw [he] at IX
      clear he hneg
      have hos : o < t.size := by rw [Array.length_toList] at ho; exact ho
      obtain ⟨fn, tmps, assign, body, hy, hR⟩ := hY pre ⟨t.extract 0 o, by rw [ByteArray.size_extract]; omega⟩ wr hJ hpl
      dsimp only at hy
      clear hY
      gi_wp2_with fail
      refine ⟨trivial, ?_⟩
      refine (callsIn_wide.2 IX.out).mono ?_
      rintro e w' ⟨rfl, rfl⟩
      clear IX
      gi_wp2
      refine hR.mono ?_
      rintro e W3 (⟨rfl, hJ3, hk3⟩ | ⟨rfl, hJx3⟩)
      · have hcq3 := (show Boxed W3 q _ _ from hk3.1.box HQ.out).cell
        have hs3 : Boxed W3 sb 9 (.string t) := hk3.1.box HS.out
        have hcs3 := hs3.cell
        have hfs3 := hs3.frozen
        have HQ3 := Lib.hid (show Boxed W3 q 9 (.string ⟨#[c]⟩) from hk3.1.box HQ.out)
        have HV3 := Lib.hid (show Boxed W3 v 3 (.int .i64 0) from hk3.2.box HV.out)
        have HS3 := Lib.hid hs3
        have HJ3 := Lib.hid hJ3
        clear hcq hcs hfs hcv HQ HV hs3 hk3 hJ3 hJ
        gi_wp2
        go_roundw
        case rel =>
          refine ⟨pre ++ [⟨t.extract 0 o, by rw [ByteArray.size_extract]; omega⟩], t.extract (o + 1) t.size, ?_, ?_, hJi _ _ _ HJ3.out ⟨_, _, HS3.out, rfl⟩, ?_, HS3.out.set _, ?_⟩
          · rw [List.map_append, List.append_assoc, ← HSP.out, extract_drop]
            congr 1
            have hx := splitL_at (b := t.data.toList.drop (o + 1)) hnm
            rw [← hcat] at hx
            rw [hx, List.map_cons, List.map_nil, extract_take]
            rfl
          · rw [ByteArray.size_extract]; omega
          · exact HQ3.out.kept (grownBy_setCell' _ _ _) (by simp [hne])
          · refine HV3.out.kept (grownBy_setCell' _ _ _) (fun e => ?_)
            injection e with e
            subst e
            have := (show W3.heap[v]? = _ from HV3.out).symm.trans HS3.out
            simp at this
        case measure =>
          rw [left_boxed HS.out, left_boxed (HS3.out.set _), ByteArray.size_extract]
          omega
      · gi_wp2
        refine bodyPost_ret (results_none rfl _ _ _) rfl ?_
        refine ⟨⟨_, rfl⟩, .inr ⟨_, ⟨splitL c (t.data.toList.drop (o + 1)), ?_⟩, hJx3⟩⟩
        rw [List.map_append, List.append_assoc, ← HSP.out]
        congr 1
        have hx := splitL_at (b := t.data.toList.drop (o + 1)) hnm
        rw [← hcat] at hx
        rw [hx, List.map_cons, List.map_nil, extract_take]
        rfl

/-- strings.splitSeq: three boxes: the string, the separator, what is kept of it. -/
theorem splitSeq_any (s sep : ByteArray) (w : World) :
    Calls Tryz.prog 145 #[.string s, .string sep, .int .i64 0] w fun e w' =>
      e = .returned (.func (.func 161) #[] #[.pointer (some ⟨w.heap.size + 1, 0, none⟩), .pointer (some ⟨w.heap.size, 0, none⟩), .pointer (some ⟨w.heap.size + 2, 0, none⟩)]) ∧
      w' = ((w.alloc (.cells #[.string s] 9)).alloc (.cells #[.string sep] 9)).alloc (.cells #[.int .i64 0] 3) := by
  go_enter Tryz.func145, Tryz.ntmps145
  go_wp2_with fail
  go_ret
  exact ⟨rfl, rfl⟩
theorem SplitSeq_any (s sep : ByteArray) (w : World) :
    Calls Tryz.prog 130 #[.string s, .string sep] w fun e w' =>
      e = .returned (.func (.func 161) #[] #[.pointer (some ⟨w.heap.size + 1, 0, none⟩), .pointer (some ⟨w.heap.size, 0, none⟩), .pointer (some ⟨w.heap.size + 2, 0, none⟩)]) ∧
      w' = ((w.alloc (.cells #[.string s] 9)).alloc (.cells #[.string sep] 9)).alloc (.cells #[.int .i64 0] 3) := by
  go_enter Tryz.func130, Tryz.ntmps130
  go_wp2_with fail
  refine (splitSeq_any _ _ _).mono ?_
  rintro e w' ⟨rfl, rfl⟩
  go_wp2_with fail
  go_ret
  exact ⟨rfl, rfl⟩

theorem split_does (n : Nat) (hn : 1 ≤ n) (q sb v : Nat) (c : UInt8) (s0 : ByteArray) (hlen : s0.size ≤ 1000000000) (w : World)
    (hq : Boxed w q 9 (.string ⟨#[c]⟩)) (hs : Boxed w sb 9 (.string s0)) (hv : Boxed w v 3 (.int .i64 0)) (hne : q ≠ sb) :
    SeqDoes Fence.wide n Tryz.prog 161 #[.pointer (some ⟨q, 0, none⟩), .pointer (some ⟨sb, 0, none⟩), .pointer (some ⟨v, 0, none⟩)] (fun x : SB => #[Value.string x.1]) KeepsS (WritesS sb)
      (fun ys => ys.map (fun s => s.1.data.toList) = splitL c s0.data.toList) (fun pre => ∃ rest, pre.map (fun s => s.1.data.toList) ++ rest = splitL c s0.data.toList) (splitL c s0.data.toList).length w := fun l J Jx W hW hJi hY h0 =>
  split1_in n hn l q sb v c s0 hlen J Jx hJi hY W ((hW.block q hq.lt).trans hq) ((hW.block sb hs.lt).trans hs) ((hW.block v hv.lt).trans hv) hne h0
end Go.Proofs.YtpoejnajnaolpaaGreatDoor

namespace Go.Proofs.YtpoejnajnaolpaaGreatDoor
open Go.RowKit Go.Shelf

theorem boxed_of {W W' : World} {b : Nat} {t : TypeId} {v : Value} {row : Option Nat} (h : Boxed W b t v) (hg : W.grownBy W' row) (hr : ∀ r, row = some r → ∃ o : Obj, W.heap[r]? = some o ∧ o.isCells = false) : Boxed W' b t v := by
  refine h.kept hg (fun e => ?_)
  obtain ⟨o, ho, hc⟩ := hr b e.symm
  rw [show W.heap[b]? = _ from h] at ho
  cases ho
  simp [Obj.isCells] at hc
theorem Boxed.behind {W W' : World} {b : Nat} {t : TypeId} {v : Value} (h : Boxed W b t v) (hb : Below W.heap.size W W') : Boxed W' b t v := (hb.block b h.lt).trans h
theorem keepsO_below {W W' : World} (hb : Below W.heap.size W W') : KeepsOthers W W' :=
  KeepsOthers.of_grownBy (row := none) ⟨hb.os, hb.tape, hb.output, hb.size, fun k hk _ => hb.block k hk⟩ (fun j o e _ => by cases e)
theorem keepsS_t {A B C : World} (h : KeepsS A B) (k : KeepsS B C) : KeepsS A C := ⟨keepsT_t h.1 k.1, keepsT_t h.2 k.2⟩
theorem keepsT_b {T : TypeId} {w : World} (W : World) (l : Nat) (o o' : Obj) (_ : w.heap.size ≤ l) (h : W.heap[l]? = some o) (hc : o.isCells = false) (_ : o.isWalk = false) : KeepsT T W (W.putObj l o') :=
  KeepsT.grown (grownBy_putObj' W l o') (fun r e cs fr hi => by
    cases e
    rw [h] at hi
    injection hi with hi
    subst hi
    simp [Obj.isCells] at hc)
theorem splitL_len (c : UInt8) : ∀ l, (splitL c l).length ≤ l.length + 1
  | [] => by simp [splitL]
  | b :: l => by
    have ih := splitL_len c l
    unfold splitL
    split
    · simp; omega
    · split
      · simp
      · rename_i h
        rw [h] at ih
        simp only [List.length_cons] at ih ⊢
        omega
end Go.Proofs.YtpoejnajnaolpaaGreatDoor

namespace Go.Proofs.YtpoejnajnaolpaaGreatDoor
open Go.RowKit

/-- Behind the opening bracket; and before the closing one. -/
def cutA (l : List UInt8) : List UInt8 := Lib.trimPrefix l [40]
def cutB (l : List UInt8) : List UInt8 := Lib.trimSuffix (cutA l) [41]
def hasA (l : List UInt8) : Bool := Lib.hasPrefix l [40]
def hasB (l : List UInt8) : Bool := Lib.hasSuffix (cutA l) [41]

theorem cutA_len (l : List UInt8) : (cutA l).length ≤ l.length := by
  unfold cutA Lib.trimPrefix
  split
  · rw [List.length_drop]; omega
  · exact Nat.le_refl _
theorem cutB_len (l : List UInt8) : (cutB l).length ≤ l.length := by
  have := cutA_len l
  unfold cutB Lib.trimSuffix
  split
  · rw [List.length_take]; omega
  · exact this
theorem cut_all {l : List UInt8} (hA : hasA l = true) (hB : hasB l = true) : l = 40 :: (cutB l ++ [41]) := by
  have h1 : [40] <+: l := by rw [← List.isPrefixOf_iff_prefix]; exact hA
  obtain ⟨r, rfl⟩ := h1
  have e1 : cutA ([40] ++ r) = r := by unfold cutA Lib.trimPrefix; unfold hasA at hA; rw [if_pos hA]; rfl
  unfold hasB at hB
  unfold cutB
  rw [e1] at hB ⊢
  have h2 : [41] <:+ r := by rw [← List.isSuffixOf_iff_suffix]; exact hB
  unfold Lib.trimSuffix
  rw [if_pos hB]
  obtain ⟨t, rfl⟩ := h2
  simp
theorem cut_no {l : List UInt8} (h : hasA l = false ∨ hasB l = false) : parseF l = none := by
  have key : ∀ t, l ≠ 40 :: (t ++ [41]) := by
    rintro t rfl
    have hA : hasA (40 :: (t ++ [41])) = true := by
      unfold hasA Lib.hasPrefix
      rw [List.isPrefixOf_iff_prefix]
      exact ⟨_, rfl⟩
    have e1 : cutA (40 :: (t ++ [41])) = t ++ [41] := by unfold cutA Lib.trimPrefix; unfold hasA at hA; rw [if_pos hA]; rfl
    have hB : hasB (40 :: (t ++ [41])) = true := by
      unfold hasB
      rw [e1]
      unfold Lib.hasSuffix
      rw [List.isSuffixOf_iff_suffix]
      exact ⟨_, rfl⟩
    rcases h with h | h
    · rw [hA] at h; cases h
    · rw [hB] at h; cases h
  unfold parseF
  rw [if_neg (show ¬ l = [40, 41] from key []), if_neg]
  rintro ⟨h2, h0, h1⟩
  cases l with
  | nil => simp at h2
  | cons a r =>
    obtain rfl : a = 40 := by simpa using h0
    have hr : r ≠ [] := by rintro rfl; simp at h2
    have hlast : r.getLast hr = 41 := by
      have e : (40 :: r)[(40 :: r).length - 1]? = r[r.length - 1]? := by
        rw [List.length_cons, Nat.add_sub_cancel]
        obtain ⟨n, hn⟩ : ∃ n, r.length = n + 1 := ⟨r.length - 1, by have := List.length_pos_iff.2 hr; omega⟩
        rw [hn, List.getElem?_cons_succ]
        rfl
      rw [e, ← List.getLast?_eq_getElem?, List.getLast?_eq_some_getLast hr] at h1
      exact Option.some.inj h1
    exact key (r.dropLast) (by rw [← hlast, List.dropLast_concat_getLast])
theorem cut_empty {l : List UInt8} (hA : hasA l = true) (hB : hasB l = true) (h : cutB l = []) : parseF l = some 0 := by
  have := cut_all hA hB
  rw [h] at this
  rw [this]
  rfl
theorem cut_some {l : List UInt8} (hA : hasA l = true) (hB : hasB l = true) (h : cutB l ≠ []) : parseF l = namesO (splitL 32 (cutB l)) := by
  have e := cut_all hA hB
  generalize cutB l = t at *
  subst e
  have hl : (40 :: (t ++ [41])).length = t.length + 2 := by simp
  unfold parseF
  rw [if_neg, if_pos]
  · congr 2
    unfold innerL
    rw [hl]
    simp
  · refine ⟨by rw [hl]; omega, rfl, ?_⟩
    rw [hl, show t.length + 2 - 1 = t.length + 1 by omega, List.getElem?_cons_succ]
    simp
  · intro e
    injection e with _ e
    cases t with
    | nil => exact h rfl
    | cons a r => simp at e
end Go.Proofs.YtpoejnajnaolpaaGreatDoor

namespace Go.Proofs.YtpoejnajnaolpaaGreatDoor
open Go.RowKit Go.Maps

theorem kS (l : List UInt8) (h : l.length ≤ 1000000000) : keyOf Tryz.prog 9 (.string ⟨l.toArray⟩) = some (.string l) := by
  have := WideMaps.keyOf_string_mk (P := Tryz.prog) Tryz.underlying9 (s := ⟨l.toArray⟩) (by unfold maxLen; show l.toArray.size ≤ _; simp; omega)
  simpa using this
theorem eF (n : Nat) (h : n ≤ 255) : plainElem (H := Unit) Tryz.prog 25 (.int .u8 (n : Int)) = some (flgD n, []) :=
  plainElem_int Tryz.underlying25 (by simp [Lit.wf, IntKind.min, IntKind.max, IntKind.signed, IntKind.bits]; omega)

set_option maxRecDepth 100000 in
set_option maxHeartbeats 1000000 in
theorem flags_any (w : World) :
    Calls Tryz.prog 129 #[] w fun e w' => ∃ b D, e = .returned (.map (some b)) ∧ w'.ownsMap Tryz.prog 9 (plainElem Tryz.prog 25) b 5 D ∧ FlagsD D ∧ w.heap.size ≤ b ∧ Below w.heap.size w w' := by
  have hmm := @run_makeMap Tryz.prog
  have N := Lib.hid (fun w1 => names_any w1)
  go_enter Tryz.func129, Tryz.ntmps129
  go_wp2_with fail
  refine (N.out _).mono ?_
  rintro e w1 ⟨rfl, ho, hb⟩
  have hz : (w.alloc (.map #[] 0)).heap.size = w.heap.size + 1 := by simp
  have HF := Lib.hid (((World.ownsMap_made (H := Unit) w Tryz.prog 9 (plainElem Tryz.prog 25)).kept (row := none) ⟨hb.os, hb.tape, hb.output, hb.size, fun k hk _ => hb.block k hk⟩ (by simp)))
  rw [hz] at ho
  have HO := Lib.hid ho
  have hb1 : Below w.heap.size w w1 := below_next ((Below.refl _ _).alloc (Nat.le_refl _) _) hb
  have hs1 : w.heap.size + 1 < w1.heap.size := by have := ho.lt; omega
  clear ho N hb hz
  go_wp2_with (at_range; refine wpList_range_own _ rfl _ 94 rfl 25 9 keyF Tryz.underlying94 _ _ _ _ rfl HO.out ?_; intro w0 hrg0 hg0 hs0)
  go_frame
  have HI := Lib.hid flags_start
  have hk0 := hb1.grown hg0 hb1.size (fun j hj => by cases hj)
  have HF0 := Lib.hid ((HF.out.kept hg0 (by simp)).mono (Nat.zero_le (5 - size nmD)))
  have hr0 : w.heap.size < w1.heap.size := by omega
  clear HF HO hb1
  generalize w1.heap.size = r at *
  clear w1 hg0 hs0
  go_loopw [2] (fun _ wr => ∃ (left : Lit → Bool) (cnt : Nat) (D : DataW Unit), wr.ranges Tryz.prog 25 (plainElem Tryz.prog 9) (w.heap.size + 1) r 5 nmD left cnt ∧ cnt ≤ 5 ∧
      wr.ownsMap Tryz.prog 9 (plainElem Tryz.prog 25) w.heap.size (5 - cnt) D ∧ FlagsInv D left ∧ Below w.heap.size w wr)
    (fun _ wr => wr.rangeLeft (w.heap.size + 1) r)
  case atStart => exact ⟨_, _, _, hrg0, by decide, HF0.out, HI.out, hk0⟩
  case round =>
    obtain ⟨left, cnt, D, hrg, hcs, hown, hI, hb⟩ := hrel
    have HI := Lib.hid hI
    have HW := Lib.hid hown
    clear hI hown hk0 HF0 hrg0
    go_wp2_with (first
      | (at_next; refine wpList_next_ranges_is _ rfl _ rfl 25 9 .u8 keyF Tryz.underlying25 Tryz.underlying9 (w.heap.size + 1) r 5 _ _ _ rfl hrg ?_ ?_)
      | fail)
    · intro hc0 hl0
      go_wp2_with fail
      subst hc0
      have hE := flags_end HI.out hl0
      go_ret
      exact ⟨_, _, rfl, HW.out, hE, Nat.le_refl _, hb⟩
    · intro x c w2 cnt1 hwx hwc hlx hat hrg1 hlt hg1 hs1 hen
      obtain ⟨f, rfl, hf, hc⟩ := nm_found (c := c.data.toList) hat
      have hf16 : f ≤ 16 := by rcases ones_mem.1 hf with rfl | rfl | rfl | rfl | rfl <;> decide
      obtain rfl := str_of hc
      have HI1 := Lib.hid (flags_step hf HI.out)
      have HW1 := Lib.hid (HW.out.kept hg1 (by simp; omega))
      have hb2 := hb.grown hg1 hb.size (fun j hj => by cases hj; omega)
      have hnl : (nameF f).length ≤ 100 := by rcases ones_mem.1 hf with rfl | rfl | rfl | rfl | rfl <;> decide
      have hul : (upL (nameF f)).length ≤ 100 := by rw [upL_length]; exact hnl
      have U := Lib.hid (fun w1 => upper_any ⟨(nameF f).toArray⟩ (by show (nameF f).toArray.size ≤ _; simp; omega) w1)
      have HM := Lib.hid (hrg.left_eq)
      have HG := Lib.hid hrg1
      have HH := Lib.hid hat
      clear hat hc hb hrg1 HW HI hwx hwc hlx
      have hw2 := hb2.size
      go_wp2_with fail
      refine (U.out _).mono ?_
      rintro e w3 ⟨rfl, hb3⟩
      have HW2 := Lib.hid (HW1.out.kept (row := none) ⟨hb3.os, hb3.tape, hb3.output, hb3.size, fun k hk _ => hb3.block k hk⟩ (by simp))
      have HG2 := Lib.hid (HG.out.kept (row := none) ⟨hb3.os, hb3.tape, hb3.output, hb3.size, fun k hk _ => hb3.block k hk⟩ (by simp) (by simp))
      have hb4 := hb2.trans (hb3.mono hw2)
      have hw4 := hb4.size
      clear U HW1 HG hb2 hb3 hw2
      go_wp2_with (at_mapUpdate; refine wpList_mapUpdate_own _ rfl _ _ _ 136 rfl 9 25 keyS Tryz.underlying136 _ w.heap.size _ _ rfl HW2.out (by unfold maxLen; omega) _ _ _ rfl rfl (kS (upL (nameF f)) (by omega)) _ [] (eF f (by omega)) ?_; intro w5 ho5 hg5; go_frame)
      have hrg5 := HG2.out.kept hg5 (by simp) (by simp; omega)
      have hb5 := hb4.grown hg5 hb4.size (fun j hj => by cases hj; exact Nat.le_refl _)
      go_roundw
      case rel => exact ⟨_, cnt1, _, hrg5, by omega, ho5.mono (by omega), HI1.out, hb5⟩
      case measure => rw [hrg5.left_eq, HM.out]; exact hlt
end Go.Proofs.YtpoejnajnaolpaaGreatDoor

namespace Go.Proofs.YtpoejnajnaolpaaGreatDoor
open Go.RowKit Go.Maps Go.Shelf
attribute [local go_sem] Oper.semAt_some

/-- A name is looked for. -/
theorem look_flag {w : World} {b : Nat} {D : DataW Unit} (hown : w.ownsMap Tryz.prog 9 (plainElem Tryz.prog 25) b 5 D) (hD : FlagsD D) (u : List UInt8) (hu : u.length ≤ 1000000000) :
    (Instr.lookup 136 (.map (some b)) (.string ⟨u.toArray⟩) true).run Tryz.prog w = .ok (.tuple #[.int .u8 (flagU u : Nat), .bool (decide (flagU u ≠ 0))]) w := by
  obtain ⟨v, ps, hrun, hv⟩ := hown.look_ok keyS Tryz.underlying136 (zeroF w) (plainElem_int (H := Unit) Tryz.underlying25 (a := 0) (by decide)) (kS u hu)
  obtain ⟨c, rfl, hc, _⟩ := plainElem_int_inv Tryz.underlying25 hv
  simp only [Prod.mk.injEq] at hc
  rw [hrun, hD.has, hD.at hc.1]

theorem mk_sizeF (l : List UInt8) : (ByteArray.mk l.toArray).size = l.length := by show l.toArray.size = _; simp
theorem len_size (s : ByteArray) : s.data.toList.length = s.size := by rw [Array.length_toList]; rfl

set_option maxRecDepth 100000 in
set_option maxHeartbeats 1000000 in
theorem parse_no (s : ByteArray) (hs : s.size ≤ 100000000) (w : World) (hn : hasA s.data.toList = false ∨ hasB s.data.toList = false) :
    Calls Tryz.prog 118 #[.string s] w fun e w' => e = .returned (.tuple #[.int .u8 0, .bool false]) ∧ Below w.heap.size w w' := by
  have hcl := cutA_len s.data.toList
  have C1 := Lib.hid (fun w1 => Any.strings_CutPrefix Tryz.lays103 s ⟨#[40]⟩ w1)
  have C2 := Lib.hid (fun w1 => Any.strings_CutSuffix Tryz.lays104 ⟨(cutA s.data.toList).toArray⟩ ⟨#[41]⟩ w1 (by rw [mk_sizeF]; have := len_size s; omega))
  have E1 : Lib.trimPrefix s.data.toList (ByteArray.mk #[40]).data.toList = cutA s.data.toList := rfl
  have E2 : Lib.hasPrefix s.data.toList (ByteArray.mk #[40]).data.toList = hasA s.data.toList := rfl
  have E3 : Lib.trimSuffix (ByteArray.mk (cutA s.data.toList).toArray).data.toList (ByteArray.mk #[41]).data.toList = cutB s.data.toList := rfl
  have E4 : Lib.hasSuffix (ByteArray.mk (cutA s.data.toList).toArray).data.toList (ByteArray.mk #[41]).data.toList = hasB s.data.toList := rfl
  rw [E1, E2] at C1
  rw [E3, E4] at C2
  clear E1 E2 E3 E4 hcl
  generalize hasA s.data.toList = a at *
  generalize hasB s.data.toList = b at *
  generalize cutA s.data.toList = l1 at *
  generalize cutB s.data.toList = l2 at *
  cases a
  case false =>
    clear hn
    go_enter Tryz.func118, Tryz.ntmps118
    go_wp2_with fail
    refine (C1.out _).mono ?_
    rintro e w1 ⟨rfl, rfl⟩
    go_wp2_with fail
    refine (C2.out _).mono ?_
    rintro e w1 ⟨rfl, rfl⟩
    go_wp2_with fail
    exact bodyPost_ret (v := .tuple #[.int .u8 0, .bool false]) (by simp [results, Tryz.f118, go_sem]) rfl ⟨rfl, by repeat (first | exact Below.refl _ _ | refine Below.alloc ?_ (by simp <;> omega) _ | refine Below.setCell ?_ (by simp <;> omega) _)⟩
  case true =>
    obtain rfl : b = false := by simpa using hn
    clear hn
    go_enter Tryz.func118, Tryz.ntmps118
    go_wp2_with fail
    refine (C1.out _).mono ?_
    rintro e w1 ⟨rfl, rfl⟩
    go_wp2_with fail
    refine (C2.out _).mono ?_
    rintro e w1 ⟨rfl, rfl⟩
    go_wp2_with fail
    exact bodyPost_ret (v := .tuple #[.int .u8 0, .bool false]) (by simp [results, Tryz.f118, go_sem]) rfl ⟨rfl, by repeat (first | exact Below.refl _ _ | refine Below.alloc ?_ (by simp <;> omega) _ | refine Below.setCell ?_ (by simp <;> omega) _)⟩

set_option maxRecDepth 100000 in
set_option maxHeartbeats 1000000 in
theorem parse_empty (s : ByteArray) (hs : s.size ≤ 100000000) (w : World) (hA : hasA s.data.toList = true) (hB : hasB s.data.toList = true) (hE : cutB s.data.toList = []) :
    Calls Tryz.prog 118 #[.string s] w fun e w' => e = .returned (.tuple #[.int .u8 0, .bool true]) ∧ Below w.heap.size w w' := by
  have hcl := cutA_len s.data.toList
  have C1 := Lib.hid (fun w1 => Any.strings_CutPrefix Tryz.lays103 s ⟨#[40]⟩ w1)
  have C2 := Lib.hid (fun w1 => Any.strings_CutSuffix Tryz.lays104 ⟨(cutA s.data.toList).toArray⟩ ⟨#[41]⟩ w1 (by rw [mk_sizeF]; have := len_size s; omega))
  have E1 : Lib.trimPrefix s.data.toList (ByteArray.mk #[40]).data.toList = cutA s.data.toList := rfl
  have E2 : Lib.hasPrefix s.data.toList (ByteArray.mk #[40]).data.toList = hasA s.data.toList := rfl
  have E3 : Lib.trimSuffix (ByteArray.mk (cutA s.data.toList).toArray).data.toList (ByteArray.mk #[41]).data.toList = cutB s.data.toList := rfl
  have E4 : Lib.hasSuffix (ByteArray.mk (cutA s.data.toList).toArray).data.toList (ByteArray.mk #[41]).data.toList = hasB s.data.toList := rfl
  rw [E1, E2, hA] at C1
  rw [E3, E4, hB, hE] at C2
  clear E1 E2 E3 E4 hcl hA hB hE
  generalize cutA s.data.toList = l1 at *
  go_enter Tryz.func118, Tryz.ntmps118
  go_wp2_with fail
  refine (C1.out _).mono ?_
  rintro e w1 ⟨rfl, rfl⟩
  go_wp2_with fail
  refine (C2.out _).mono ?_
  rintro e w1 ⟨rfl, rfl⟩
  go_wp2_with fail
  exact bodyPost_ret (v := .tuple #[.int .u8 0, .bool true]) (by simp [results, Tryz.f118, go_sem]) rfl ⟨rfl, by repeat (first | exact Below.refl _ _ | refine Below.alloc ?_ (by simp <;> omega) _ | refine Below.setCell ?_ (by simp <;> omega) _)⟩
end Go.Proofs.YtpoejnajnaolpaaGreatDoor

namespace Go.Proofs.YtpoejnajnaolpaaGreatDoor
open Go.RowKit Go.Maps Go.Shelf
attribute [local go_sem] Oper.semAt_some

def dS (p : SB) : List UInt8 := p.1.data.toList
/-- Between two rounds of Parse: the results' boxes, the map's, the flags', the iterator's string's; and the map. -/
def FI (n0 s bm : Nat) (D : DataW Unit) (pre : List SB) (W : World) : Prop :=
  Boxed W n0 25 (.int .u8 0) ∧ Boxed W (n0 + 1) 4 (.bool false) ∧ (∃ u, Boxed W (s + 2) 9 u) ∧ Boxed W s 136 (.map (some bm)) ∧
    Boxed W (s + 1) 25 (.int .u8 (orF (pre.map dS) : Nat)) ∧ W.ownsMap Tryz.prog 9 (plainElem Tryz.prog 25) bm 5 D ∧ allF (pre.map dS) = true
def FX (n0 : Nat) (c : Code) (pre : List SB) (W : World) : Prop :=
  c = .ret ∧ (∃ p ∈ pre, flagL (dS p) = 0) ∧ Boxed W n0 25 (.int .u8 0) ∧ Boxed W (n0 + 1) 4 (.bool false)

theorem fi_own (n0 s bm B : Nat) (hB : bm < B) (D : DataW Unit) : OwnFrom B (FI n0 s bm D) := by
  rintro pre X Y row ⟨h1, h2, ⟨u, h3⟩, h4, h5, h6, h7⟩ hg hr
  have hr' : ∀ r, row = some r → ∃ o : Obj, X.heap[r]? = some o ∧ o.isCells = false := fun r e => (hr r e).2
  exact ⟨boxed_of h1 hg hr', boxed_of h2 hg hr', ⟨u, boxed_of h3 hg hr'⟩, boxed_of h4 hg hr', boxed_of h5 hg hr', h6.kept hg (fun e => by have := (hr _ e.symm).1; omega), h7⟩
theorem fx_own (n0 : Nat) (c : Code) : Own (FX n0 c) := by
  rintro pre X Y row ⟨h0, h00, h1, h2⟩ hg hr
  exact ⟨h0, h00, boxed_of h1 hg hr, boxed_of h2 hg hr⟩
/-- A map's block is no box. -/
theorem map_ne_box {w : World} {k : TypeId} {R : Value → Option (DataW Unit × List MemPlace)} {b n : Nat} {D : DataW Unit} (hm : w.ownsMap Tryz.prog k R b n D) {B : Nat} {t : TypeId} {v : Value} (h : Boxed w B t v) : some b ≠ some B := by
  intro e
  injection e with e
  subst e
  obtain ⟨es, clock, hb, _⟩ := hm
  rw [show w.heap[b]? = _ from h] at hb
  cases hb
theorem fi_writes (n0 s bm : Nat) (hn : n0 + 1 < s) (D : DataW Unit) (pre : List SB) (A B : World) (h : FI n0 s bm D pre A) (hw : WritesS (s + 2) A B) : FI n0 s bm D pre B := by
  obtain ⟨h1, h2, ⟨u, h3⟩, h4, h5, h6, h7⟩ := h
  obtain ⟨_, x, _, rfl⟩ := hw
  have hg := grownBy_setCell' A (s + 2) x
  exact ⟨h1.kept hg (by simp; omega), h2.kept hg (by simp; omega), ⟨x, h3.set x⟩, h4.kept hg (by simp), h5.kept hg (by simp), h6.kept hg (map_ne_box h6 h3), h7⟩
theorem belowW {n0 s : Nat} (hn : n0 ≤ s) {w A B : World} (h : Below n0 w A) (hw : WritesS (s + 2) A B) : Below n0 w B := by
  obtain ⟨_, x, _, rfl⟩ := hw
  exact h.setCell (p := ⟨s + 2, 0, none⟩) (by simp; omega) _
set_option maxRecDepth 100000 in
set_option maxHeartbeats 4000000 in
theorem parse_loop (s : ByteArray) (hs : s.size ≤ 100000000) (w : World) (hA : hasA s.data.toList = true) (hB : hasB s.data.toList = true) (hE : cutB s.data.toList ≠ []) :
    Calls Tryz.prog 118 #[.string s] w fun e w' => e = .returned (.tuple #[.int .u8 (((namesO (splitL 32 (cutB s.data.toList))).getD 0 : Nat) : Int), .bool (namesO (splitL 32 (cutB s.data.toList))).isSome]) ∧ Below w.heap.size w w' := by
  have hcl := cutA_len s.data.toList
  have hcl2 := cutB_len s.data.toList
  have C1 := Lib.hid (fun w1 => Any.strings_CutPrefix Tryz.lays103 s ⟨#[40]⟩ w1)
  have C2 := Lib.hid (fun w1 => Any.strings_CutSuffix Tryz.lays104 ⟨(cutA s.data.toList).toArray⟩ ⟨#[41]⟩ w1 (by rw [mk_sizeF]; have := len_size s; omega))
  have E1 : Lib.trimPrefix s.data.toList (ByteArray.mk #[40]).data.toList = cutA s.data.toList := rfl
  have E2 : Lib.hasPrefix s.data.toList (ByteArray.mk #[40]).data.toList = hasA s.data.toList := rfl
  have E3 : Lib.trimSuffix (ByteArray.mk (cutA s.data.toList).toArray).data.toList (ByteArray.mk #[41]).data.toList = cutB s.data.toList := rfl
  have E4 : Lib.hasSuffix (ByteArray.mk (cutA s.data.toList).toArray).data.toList (ByteArray.mk #[41]).data.toList = hasB s.data.toList := rfl
  rw [E1, E2, hA] at C1
  rw [E3, E4, hB] at C2
  have hll := len_size s
  clear E1 E2 E3 E4 hA hB
  generalize cutA s.data.toList = l1 at *
  generalize cutB s.data.toList = l2 at *
  obtain ⟨pp, hpp⟩ : ∃ pp, namesO (splitL 32 l2) = pp := ⟨_, rfl⟩
  rw [hpp]
  have HPP := Lib.hid hpp
  have hl2 : l2.length ≤ 100000000 := by omega
  have he1 : l2.isEmpty = false := by simpa using hE
  have F := Lib.hid (fun w1 => flags_any w1)
  clear hpp hE hcl hcl2 hll
  refine (callsIn_wide (n := 3)).1 ?_
  refine callsIn_of_wp_marks Tryz.func118 rfl trivial ?_ rfl
  simp only [Tryz.ntmps118, List.size_toArray, List.length_cons, List.length_nil, Nat.reduceAdd, Nat.reduceSub, Array.replicate_succ, Array.replicate_zero, List.push_toArray, List.append_toArray, List.nil_append, List.cons_append]
  gi_wp2_with fail
  refine ⟨trivial, ?_⟩
  refine (callsIn_wide.2 (C1.out _)).mono ?_
  rintro e w1 ⟨rfl, rfl⟩
  gi_wp2_with fail
  refine ⟨trivial, ?_⟩
  refine (callsIn_wide.2 (C2.out _)).mono ?_
  rintro e w1 ⟨rfl, rfl⟩
  gi_wp2_with fail
  refine ⟨trivial, ?_⟩
  refine (callsIn_wide.2 (F.out _)).mono ?_
  rintro e w1 ⟨bm, D, rfl, hm, hD, hbm, hb⟩
  have B0 := Boxed.behind ((Boxed.new w 25 (.int .u8 0)).alloc (.cells #[.bool false] 4)) hb
  have B1 := Boxed.behind (Boxed.new (w.alloc (.cells #[.int .u8 0] 25)) 4 (.bool false)) hb
  have hb0 : Below w.heap.size w w1 := below_step (((Below.refl _ _).alloc (Nat.le_refl _) _).alloc (by simp) _) hb (by simp; omega)
  have hbm2 : w.heap.size + 2 ≤ bm := by simp at hbm; omega
  have hbml := hm.lt
  rw [show (w.alloc (.cells #[.int .u8 0] 25)).heap.size = w.heap.size + 1 by simp] at B1
  have HM := Lib.hid hm
  have HB0 := Lib.hid B0
  have HB1 := Lib.hid B1
  clear hm B0 B1 hb hbm
  gi_wp2_with fail
  refine ⟨trivial, ?_⟩
  refine (callsIn_wide.2 (SplitSeq_any _ _ _)).mono ?_
  rintro e w2 ⟨rfl, rfl⟩
  gi_wp2_with fail
  have HBw : Below w.heap.size w (((((w1.alloc (.cells #[.map (some bm)] 136)).alloc (.cells #[.int .u8 0] 25)).alloc (.cells #[.string ⟨l2.toArray⟩] 9)).alloc (.cells #[.string ⟨#[32]⟩] 9)).alloc (.cells #[.int .i64 0] 3)) := by
    have := hb0.size
    repeat (first | exact hb0 | refine Below.alloc ?_ (by simp <;> omega) _ | refine Below.alloc ?_ (by omega) _)
  have c0 := ((((HB0.out.alloc (.cells #[.map (some bm)] 136)).alloc (.cells #[.int .u8 0] 25)).alloc (.cells #[.string ⟨l2.toArray⟩] 9)).alloc (.cells #[.string ⟨#[32]⟩] 9)).alloc (.cells #[.int .i64 0] 3)
  have c1 := ((((HB1.out.alloc (.cells #[.map (some bm)] 136)).alloc (.cells #[.int .u8 0] 25)).alloc (.cells #[.string ⟨l2.toArray⟩] 9)).alloc (.cells #[.string ⟨#[32]⟩] 9)).alloc (.cells #[.int .i64 0] 3)
  have cm := ((((HM.out.alloc (.cells #[.map (some bm)] 136)).alloc (.cells #[.int .u8 0] 25)).alloc (.cells #[.string ⟨l2.toArray⟩] 9)).alloc (.cells #[.string ⟨#[32]⟩] 9)).alloc (.cells #[.int .i64 0] 3)
  have cA := ((((Boxed.new w1 136 (.map (some bm))).alloc (.cells #[.int .u8 0] 25)).alloc (.cells #[.string ⟨l2.toArray⟩] 9)).alloc (.cells #[.string ⟨#[32]⟩] 9)).alloc (.cells #[.int .i64 0] 3)
  have cB := (((Boxed.new (w1.alloc (.cells #[.map (some bm)] 136)) 25 (.int .u8 0)).alloc (.cells #[.string ⟨l2.toArray⟩] 9)).alloc (.cells #[.string ⟨#[32]⟩] 9)).alloc (.cells #[.int .i64 0] 3)
  have cC := ((Boxed.new ((w1.alloc (.cells #[.map (some bm)] 136)).alloc (.cells #[.int .u8 0] 25)) 9 (.string ⟨l2.toArray⟩)).alloc (.cells #[.string ⟨#[32]⟩] 9)).alloc (.cells #[.int .i64 0] 3)
  have cD := (Boxed.new (((w1.alloc (.cells #[.map (some bm)] 136)).alloc (.cells #[.int .u8 0] 25)).alloc (.cells #[.string ⟨l2.toArray⟩] 9)) 9 (.string ⟨#[32]⟩)).alloc (.cells #[.int .i64 0] 3)
  have cE := Boxed.new ((((w1.alloc (.cells #[.map (some bm)] 136)).alloc (.cells #[.int .u8 0] 25)).alloc (.cells #[.string ⟨l2.toArray⟩] 9)).alloc (.cells #[.string ⟨#[32]⟩] 9)) 3 (.int .i64 0)
  simp only [World.size_alloc, Nat.add_assoc, Nat.reduceAdd] at cB cC cD cE
  have hsz : w1.heap.size + 5 ≤ (((((w1.alloc (.cells #[.map (some bm)] 136)).alloc (.cells #[.int .u8 0] 25)).alloc (.cells #[.string ⟨l2.toArray⟩] 9)).alloc (.cells #[.string ⟨#[32]⟩] 9)).alloc (.cells #[.int .i64 0] 3)).heap.size := by simp
  have hn01 := hb0.size
  clear HB0 HB1 HM hb0
  generalize (((((w1.alloc (.cells #[.map (some bm)] 136)).alloc (.cells #[.int .u8 0] 25)).alloc (.cells #[.string ⟨l2.toArray⟩] 9)).alloc (.cells #[.string ⟨#[32]⟩] 9)).alloc (.cells #[.int .i64 0] 3)) = W0 at *
  generalize w1.heap.size = n at *
  have HC := Lib.hid cC
  have hsl := splitL_len 32 l2
  have hl2s : (⟨l2.toArray⟩ : ByteArray).size ≤ 1000000000 := by rw [mk_sizeF]; omega
  refine wpIn_rangeFunc_it rfl (by omega) (gf := 161) (lb := #[.pointer (some ⟨n + 3, 0, none⟩), .pointer (some ⟨n + 2, 0, none⟩), .pointer (some ⟨n + 4, 0, none⟩)]) rfl trivial (enters_of Tryz.func161 (by kernel_rfl) rfl)
    (split_does 2 (by omega) (n + 3) (n + 2) (n + 4) 32 ⟨l2.toArray⟩ hl2s W0 cD cC cE (by omega)) (fun h k => keepsS_t h k) (fun W l o o' h1 h2 h3 h4 => ⟨keepsT_b (w := W0) W l o o' h1 h2 h3 h4, keepsT_b (w := W0) W l o o' h1 h2 h3 h4⟩)
    (fun X Y i o hw ho hc => by
      obtain ⟨_, u, hbx, rfl⟩ := hw
      by_cases hi3 : i = n + 2
      · subst hi3
        rw [show X.heap[n + 2]? = _ from hbx] at ho
        cases ho
        simp [Obj.isCells] at hc
      · exact (Below.heap_setCell X ⟨n + 2, 0, none⟩ u i hi3).trans ho)
    (Below.refl _ _) (fun _ => rfl)
    (fun pre W => FI w.heap.size n bm D pre W ∧ Below w.heap.size w W)
    (fun c pre W => FX w.heap.size c pre W ∧ Below w.heap.size w W)
    (OwnFrom.and (fi_own _ _ _ _ (by omega) _) (ownFrom_below (Nat.le_refl _) (by omega)))
    (fun c => OwnFrom.and (Own.from (fx_own _ c) _) (ownFrom_below (Nat.le_refl _) (by omega)))
    (fun s A B h hw => ⟨fi_writes _ _ _ (by omega) _ s A B h.1 hw, belowW (by omega) h.2 hw⟩)
    ⟨⟨c0, c1, ⟨_, cC⟩, cA, cB, cm, rfl⟩, HBw⟩
    ?a1 ?assign ?body ?done ?stop
  case assign =>
    intro l x W K hK
    gi_wp2
    exact hK
  case body =>
    rintro l pre x W ⟨⟨h1, h2, ⟨u3, h3⟩, h4, h5, h6, h7⟩, hB⟩ hlt
    have hd : 1 ≤ 3 - 1 - 1 := by omega
    have hmx : Tryz.prog.follows .mixedOrders = true := by kernel_rfl
    have U := Lib.hid (fun w1 => upper_any x.1 x.2 w1)
    have hul : (upL x.1.data.toList).length ≤ 1000000000 := by rw [upL_length, len_size]; exact x.2
    have LK := Lib.hid (fun w3 (hb : Below W.drew.heap.size W.drew w3) => look_flag (map_below h6.drew hb) hD (upL x.1.data.toList) hul)
    have hfx : flagU (upL x.1.data.toList) = flagL (dS x) := rfl
    rw [hfx] at LK
    have HFX := Lib.hid hfx
    clear hfx
    generalize upL x.1.data.toList = ux at *
    have hc4 := h4.cell
    have H1 := Lib.hid h1
    have H2 := Lib.hid h2
    have H3 := Lib.hid h3
    have H4 := Lib.hid h4
    have H5 := Lib.hid h5
    have H6 := Lib.hid h6
    have H7 := Lib.hid h7
    have h4l : n < W.heap.size := h4.lt
    clear h1 h2 h3 h4 h5 h6 h7 hD
    by_cases h0 : flagL (dS x) = 0
    · rw [h0] at LK
      gi_wp2
      gi_region_with (refine ⟨trivial, ?_⟩; gi_at_call 131; refine (CallsIn.inRound l (callsIn_wide.2 (U.out _))).mono ?_; rintro e w3 ⟨rfl, hb3⟩; have hlk := LK.out w3 hb3; have hc4' : w3.cell? ⟨n, 0, none⟩ = some (.map (some bm)) := (hb3.cell (p := ⟨n, 0, none⟩) h4l).trans hc4)
      all_goals
        have b1 := Boxed.behind (show Boxed W.drew w.heap.size 25 (.int .u8 0) from H1.out) hb3
        have b2 := Boxed.behind (show Boxed W.drew (w.heap.size + 1) 4 (.bool false) from H2.out) hb3
        have hB1 : Below w.heap.size w w3 := hB.drew.trans (hb3.mono hB.drew.size)
        have hKO := (KeepsOthers.drew W).trans (keepsO_below hb3)
        have k1 := b1.cell
        have f1 := b1.frozen
        have k2 := b2.cell
        have f2 := b2.frozen
        clear LK HC cA cB cC cD cE cm c0 c1 hlk hc4' hc4 hb3
        gi_wp2_with fail
        exact ⟨(hKO.trans ((KeepsOthers.setCell _ _ _).trans (KeepsOthers.setCell _ _ _))).from _, ⟨rfl, ⟨x, by simp, h0⟩, (b1.set _).kept (grownBy_setCell' _ _ _) (by simp), (b2.kept (grownBy_setCell' _ _ _) (by simp)).set _⟩, (hB1.setCell (p := ⟨w.heap.size, 0, none⟩) (Nat.le_refl _) _).setCell (p := ⟨w.heap.size + 1, 0, none⟩) (by simp) _⟩
    · have hfl := flagL_lt (dS x)
      have hol := orF_lt (pre.map dS)
      have HO := Lib.hid (orF_snoc (pre.map dS) (dS x))
      have HA := Lib.hid (allF_snoc (pre.map dS) (dS x))
      have hdec : decide (flagL (dS x) ≠ 0) = true := by simpa using h0
      rw [hdec] at LK
      have HG := Lib.hid (show (flagL (dS x) != 0) = true by simpa using h0)
      generalize flagL (dS x) = g at *
      generalize orF (pre.map dS) = o at *
      have e1 := u8_or_nat o g (by omega) (by omega)
      clear hdec h0
      gi_wp2
      gi_region_with (refine ⟨trivial, ?_⟩; gi_at_call 131; refine (CallsIn.inRound l (callsIn_wide.2 (U.out _))).mono ?_; rintro e w3 ⟨rfl, hb3⟩; have hlk := LK.out w3 hb3; have hc4' : w3.cell? ⟨n, 0, none⟩ = some (.map (some bm)) := (hb3.cell (p := ⟨n, 0, none⟩) h4l).trans hc4)
      all_goals
        have b1 := Boxed.behind (show Boxed W.drew w.heap.size 25 (.int .u8 0) from H1.out) hb3
        have b2 := Boxed.behind (show Boxed W.drew (w.heap.size + 1) 4 (.bool false) from H2.out) hb3
        have b3 := Boxed.behind (show Boxed W.drew (n + 2) 9 u3 from H3.out) hb3
        have b4 := Boxed.behind (show Boxed W.drew n 136 (.map (some bm)) from H4.out) hb3
        have b5 := Boxed.behind (show Boxed W.drew (n + 1) 25 (.int .u8 (o : Int)) from H5.out) hb3
        have hB1 : Below w.heap.size w w3 := hB.drew.trans (hb3.mono hB.drew.size)
        have hKO := (KeepsOthers.drew W).trans (keepsO_below hb3)
        have hKS : ∀ T, T ≠ 25 → KeepsT T W (w3.setCell ⟨n + 1, 0, none⟩ (.int .u8 ((o ||| g : Nat) : Int))) := fun T hT => ((KeepsT.refl T W.drew).below hb3).set_ b5 hT.symm _
        have hM := Lib.hid (map_below H6.out.drew hb3)
        have k5 := b5.cell
        have f5 := b5.frozen
        clear LK HC cA cB cC cD cE cm c0 c1 hlk hc4' hc4 hb3
        gi_wp2_with fail
        exact ⟨(hKO.trans (KeepsOthers.setCell _ _ _)).from _, ⟨hKS _ (by decide), hKS _ (by decide)⟩, ⟨b1.kept (grownBy_setCell' _ _ _) (by simp; omega), b2.kept (grownBy_setCell' _ _ _) (by simp; omega), ⟨_, b3.kept (grownBy_setCell' _ _ _) (by simp)⟩, b4.kept (grownBy_setCell' _ _ _) (by simp),
          by rw [List.map_append, List.map_cons, List.map_nil, HO.out]; exact b5.set _, hM.out.kept (grownBy_setCell' _ _ _) (map_ne_box hM.out b5), by rw [List.map_append, List.map_cons, List.map_nil, HA.out, H7.out, HG.out]; rfl⟩, hB1.setCell (p := ⟨n + 1, 0, none⟩) (by simp; omega) _⟩
  case done =>
    rintro E ys W hD' hys ⟨⟨h1, h2, -, h4, h5, h6, h7⟩, hB⟩ hK
    have hys' : splitL 32 l2 = ys.map dS := hys.symm
    have hP : namesO (splitL 32 l2) = some (orF (ys.map dS)) := by
      rw [hys']
      unfold namesO
      rw [if_pos h7]
    rw [HPP.out] at hP
    obtain ⟨o, ho⟩ : ∃ o, orF (ys.map dS) = o := ⟨_, rfl⟩
    rw [ho] at hP h5
    clear ho
    have q1 := h1.lt
    have k1 := h1.cell
    have f1 := h1.frozen
    have k2 := h2.cell
    have f2 := h2.frozen
    have k5 := h5.cell
    subst hP
    have HH5 := Lib.hid h5
    clear hys hys' h6 h7 HPP HC cA cB cC cD cE cm c0 c1 h4 h5
    gi_wp2
    have hK2 := (KeepsOthers.setCell (W.setCell ⟨w.heap.size, 0, none⟩ (.int .u8 (o : Int))) ⟨w.heap.size + 1, 0, none⟩ (.bool true)).same E _ ((KeepsOthers.setCell W ⟨w.heap.size, 0, none⟩ (.int .u8 (o : Int))).same E _ hK rfl) rfl
    have b1 := (h1.set (.int .u8 (o : Int))).kept (grownBy_setCell' _ (w.heap.size + 1) (.bool true)) (by simp)
    have b2 := (h2.kept (grownBy_setCell' W w.heap.size (.int .u8 (o : Int))) (by simp)).set (.bool true)
    have hB2 := (hB.setCell (p := ⟨w.heap.size, 0, none⟩) (Nat.le_refl _) (.int .u8 (o : Int))).setCell (p := ⟨w.heap.size + 1, 0, none⟩) (by simp) (.bool true)
    have hD2 : w.heap.size ≤ E := by omega
    refine ⟨by simp, .inl ⟨_, _, rfl, run_takeDeferred hK2, ?_⟩⟩
    have d1 := (boxed_of b1 (grownBy_putObj' _ E (.deferred none)) (fun r e => by cases e; exact ⟨_, hK2, rfl⟩)).cell
    have d2 := (boxed_of b2 (grownBy_putObj' _ E (.deferred none)) (fun r e => by cases e; exact ⟨_, hK2, rfl⟩)).cell
    refine ⟨.tuple #[.int .u8 (o : Int), .bool true], ?_, by simp, ?_⟩
    · simp [results, Tryz.f118, go_sem, d1, d2]
    · exact hB2.trans (belowK_b (w := w) (Nat.le_refl _) _ E _ _ hD2 hK2 rfl rfl)
  case stop =>
    rintro E c pre W hD' ⟨rest, hrest⟩ ⟨⟨rfl, ⟨p, hp, hbad⟩, h1, h2⟩, hB⟩ hK
    have hP : namesO (splitL 32 l2) = none := by
      unfold namesO
      rw [if_neg]
      intro h
      have h' : (splitL 32 l2).all (fun p => flagL p != 0) = true := h
      rw [← show pre.map dS ++ rest = splitL 32 l2 from hrest, List.all_append, Bool.and_eq_true, List.all_eq_true] at h'
      have := h'.1 (dS p) (List.mem_map.2 ⟨p, hp, rfl⟩)
      simp [hbad] at this
    rw [HPP.out] at hP
    subst hP
    clear HPP HC cA cB cC cD cE cm c0 c1
    gi_wp2
    have hD2 : w.heap.size ≤ E := by omega
    refine ⟨by simp, .inl ⟨_, _, rfl, run_takeDeferred hK, ?_⟩⟩
    have d1 := (boxed_of h1 (grownBy_putObj' _ E (.deferred none)) (fun r e => by cases e; exact ⟨_, hK, rfl⟩)).cell
    have d2 := (boxed_of h2 (grownBy_putObj' _ E (.deferred none)) (fun r e => by cases e; exact ⟨_, hK, rfl⟩)).cell
    refine ⟨.tuple #[.int .u8 0, .bool false], ?_, by simp, ?_⟩
    · simp [results, Tryz.f118, go_sem, d1, d2]
    · exact hB.trans (belowK_b (w := w) (Nat.le_refl _) _ E _ _ hD2 hK rfl rfl)

/-- Parse, whatever the string. -/
theorem fparse_any (s : ByteArray) (hs : s.size ≤ 100000000) (w : World) :
    Calls Tryz.prog 118 #[.string s] w fun e w' => e = .returned (.tuple #[.int .u8 (((parseF s.data.toList).getD 0 : Nat) : Int), .bool (parseF s.data.toList).isSome]) ∧ Below w.heap.size w w' := by
  cases hA : hasA s.data.toList with
  | false =>
    rw [cut_no (.inl hA)]
    exact parse_no s hs w (.inl hA)
  | true =>
    cases hB : hasB s.data.toList with
    | false =>
      rw [cut_no (.inr hB)]
      exact parse_no s hs w (.inr hB)
    | true =>
      by_cases hE : cutB s.data.toList = []
      · rw [cut_empty hA hB hE]
        exact parse_empty s hs w hA hB hE
      · rw [cut_some hA hB hE]
        exact parse_loop s hs w hA hB hE
end Go.Proofs.YtpoejnajnaolpaaGreatDoor
