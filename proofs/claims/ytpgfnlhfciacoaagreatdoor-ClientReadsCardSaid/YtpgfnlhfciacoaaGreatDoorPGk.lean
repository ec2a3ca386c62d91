import Derived.RangeFuncNested
import Derived.RangeFuncBound
import Derived.RangeFuncCalls
import Derived.RangeFuncLeaves
import Derived.Shelf.Abstract
import Derived.Shelf.Strings.Search3
import Derived.OwnWalkIn
import Derived.TacticsInMore
import Derived.LoopNIn
import Derived.LoopIn
import Derived.Test.YtpgfnlhfciacoaaGreatDoorPGq
import Derived.ChangeAlike
import Derived.BigRegion
set_option maxRecDepth 100000
set_option maxHeartbeats 4000000
open Go.Lib renaming hid → Hi
namespace Go.Proofs.YtpgfnlhfciacoaaGreatDoor
open Go.RowKit
section
def SeqDoes {α : Type} (F : Fence) (n : Nat) (P : Program) (g : Nat) (lb : Array Value) (encs : α → Array Value) (Kp It : World → World → Prop) (S Sp : List α → Prop) (N : Nat) (w : World) : Prop :=
 ∀ (l : Nat) (J Jx : List α → World → Prop) (W : World), Below w.heap.size w W → (∀ s A B, J s A → It A B → J s B) →
  (∀ pre x W1, J pre W1 → pre.length < N → YieldAt F (n - 1) P l (encs x) W1 fun e W' =>
   (e = .returned (.bool true) ∧ J (pre ++ [x]) W' ∧ Kp W1 W') ∨ (e = .returned (.bool false) ∧ Jx (pre ++ [x]) W')) →
  J [] W →
  CallsIn F n P g (#[.func (.yield l) #[] #[]] ++ lb) W fun e W' => (∃ v, e = .returned v) ∧ ((∃ xs, S xs ∧ J xs W') ∨ (∃ pre, Sp pre ∧ Jx pre W'))
variable {F : Fence} {n : Nat} {P : Program}
theorem wpIn_rangeFunc_it {α : Type} {g : Operand} {ps : Array Tmp} {assign body : Code} {Q : Exit → Act → World → Prop} {a : Act} {w : World}
 (hro : F.round = none) (h1 : 1 ≤ n) {gf : Nat} {lb : Array Value} (hg : a.eval g = .func (.func gf) #[] lb) (hFg : F.fn gf) (eg : ∀ args w, (callFunc gf args).run P w = .ok (.enter gf args) w)
 {encs : α → Array Value} {Kp It : World → World → Prop} {S Sp : List α → Prop} {N : Nat} {w0 : World} (hseq : SeqDoes F (n - 1) P gf lb encs Kp It S Sp N w0)
 (hKt : ∀ {A B C : World}, Kp A B → Kp B C → Kp A C) (hKb : ∀ (W : World) (l : Nat) (o o' : Obj), w.heap.size ≤ l → W.heap[l]? = some o → o.isCells = false → o.isWalk = false → Kp W (W.putObj l o'))
 (hIt : ∀ (A B : World) (i : Nat) (o : Obj), It A B → A.heap[i]? = some o → o.isCells = false → B.heap[i]? = some o)
 (hb0 : Below w0.heap.size w0 w) (hps : ∀ x, (encs x).size = ps.size)
 (I : List α → World → Prop) (Ix : Code → List α → World → Prop) (hI : OwnFrom w.heap.size I) (hIx : ∀ c, OwnFrom w.heap.size (Ix c)) (hIi : ∀ s A B, I s A → It A B → I s B) (h0 : I [] w) (a₁ : α → Act)
 (hassign : ∀ (l : Nat) (x : α) (W : World) (K : Act → World → Prop), K (a₁ x) W →
  assign.wpIn (F.inRound l) (n - 1 - 1) P (Exit.then K (fun _ _ _ => False)) { tmps := (ps.zip (encs x)).foldl (fun t (p, v) => t.setIfInBounds p v) a.tmps, defers := [] } W)
 (hbody : ∀ (l : Nat) (pre : List α) (x : α) (W : World), I pre W → pre.length < N → body.wpIn (F.inRound l) (n - 1 - 1) P (ownPostG w.heap.size Kp I Ix (pre ++ [x]) W) (a₁ x) W)
 (hdone : ∀ (D : Nat) (xs : List α) (W : World), w.heap.size ≤ D → S xs → I xs W → W.heap[D]? = some (.deferred (some [])) → Q .normal { a with defers := { target := .collected D, args := #[] } :: a.defers } W)
 (hstop : ∀ (D : Nat) (c : Code) (pre : List α) (W : World), w.heap.size ≤ D → Sp pre → Ix c pre W → W.heap[D]? = some (.deferred (some [])) → c.wpIn F n P Q { a with defers := { target := .collected D, args := #[] } :: a.defers } W) :
 (Code.rangeFunc g ps assign body).wpIn F n P Q a w := by
 refine wpIn_rangeFunc ?_
 intro fn hfn
 rw [hro]
 obtain ⟨rec, hrec⟩ : ∃ rec : LoopState → Option Code → Loop, rec = fun st pe => { state := st, pending := pe, fn, tmps := a.tmps, params := ps, assign, body, defers := w.heap.size } := ⟨_, rfl⟩
 obtain ⟨W1, hW1⟩ : ∃ W1, (w.alloc (.deferred (some []))).alloc (.loop (rec .ready none)) = W1 := ⟨_, rfl⟩
 have hL1 : W1.heap[w.heap.size + 1]? = some (.loop (rec .ready none)) := by
  have := World.alloc_heap_new (w.alloc (.deferred (some []))) (.loop (rec .ready none))
  rw [World.size_alloc] at this
  rw [← hW1]; exact this
 have hK1 : W1.heap[w.heap.size]? = some (.deferred (some [])) := by
  rw [← hW1]; exact (Below.heap_alloc _ _ _ (by simp)).trans (World.alloc_heap_new w _)
 have hI1 : I [] W1 := by rw [← hW1]; exact hI.alloc _ (hI.alloc _ h0)
 have hb1 : Below w0.heap.size w0 W1 := by
  rw [← hW1]; exact hb0.trans ((((Below.refl _ w).alloc (Nat.le_refl _) _).alloc (by simp) _).mono hb0.size)
 refine ⟨w.heap.size + 1, [{ target := .collected w.heap.size, args := #[] }], W1, { target := .fn (.func gf) lb, args := #[.func (.yield (w.heap.size + 1)) #[] #[]] }, W1, gf,
  #[.func (.yield (w.heap.size + 1)) #[] #[]] ++ lb, W1, ?_, ?_, ?_, ?_, fun _ => h1, ?_⟩
 · rw [← hW1, hrec]; exact run_enterLoop_outer _ _ _ _ _
 · simp only [resolve, hg]
   simp [go_sem]
 · intro f' hf'; simp [Target.leads] at hf'; subst hf'; exact hFg
 · simp [invoke, go_sem, eg]
 · refine (hseq (w.heap.size + 1)
    (fun pre W => I pre W ∧ W.heap[w.heap.size + 1]? = some (.loop (rec .ready none)) ∧ W.heap[w.heap.size]? = some (.deferred (some [])))
    (fun pre W => ∃ c, Ix c pre W ∧ W.heap[w.heap.size + 1]? = some (.loop (rec .done (some c))) ∧ W.heap[w.heap.size]? = some (.deferred (some [])))
    W1 hb1
    (fun s A B hs hi => ⟨hIi s A B hs.1 hi, hIt A B _ _ hi hs.2.1 rfl, hIt A B _ _ hi hs.2.2 rfl⟩)
    ?_ ⟨hI1, hL1, hK1⟩).mono ?_
   · rintro pre x W ⟨hi, hl, hk⟩ hlen
     have hlt : w.heap.size + 1 < W.heap.size := (Array.getElem?_eq_some_iff.1 hl).1
     have hy := run_yield (P := P) (args := encs x) hl (by rw [hrec]; exact hps x)
     rw [hrec] at hy
     refine ⟨fn, _, assign, body, hy, roundIn_of_wpIn hfn (hassign _ x W _ ⟨_, run_beginRound hl (by rw [hrec]), ?_⟩)⟩
     obtain ⟨Wb, hWb⟩ : ∃ Wb, W.putObj (w.heap.size + 1) (.loop { rec .ready none with state := .busy }) = Wb := ⟨_, rfl⟩
     have hl2 : Wb.heap[w.heap.size + 1]? = some (.loop { rec .ready none with state := .busy }) := by rw [← hWb]; exact World.putObj_heap_same hlt
     have hk2 : Wb.heap[w.heap.size]? = some (.deferred (some [])) := by rw [← hWb]; exact (World.putObj_heap_other (by omega)).trans hk
     have hw2 : Kp W Wb := by rw [← hWb]; exact hKb _ _ _ _ (by omega) hl rfl rfl
     have hib : I pre Wb := by rw [← hWb]; exact hI.putObj _ hi (by omega) hl rfl
     show body.wpIn _ _ _ _ _ (W.putObj (w.heap.size + 1) (.loop { rec .ready none with state := .busy }))
     rw [hWb]
     refine wpIn_mono (hbody _ pre x _ hib hlen) ?_
     have fin : ∀ (jump : Option Code) (W3 : World), KeepsFrom w.heap.size Wb W3 →
      (Instr.endRound (w.heap.size + 1) jump).run P W3 = .ok (.bool jump.isNone) (W3.putObj (w.heap.size + 1) (.loop (rec (if jump.isNone then .ready else .done) jump))) ∧
      W3.heap[w.heap.size + 1]? = some (.loop { rec .ready none with state := .busy }) ∧
      (W3.putObj (w.heap.size + 1) (.loop (rec (if jump.isNone then .ready else .done) jump))).heap[w.heap.size + 1]? = some (.loop (rec (if jump.isNone then .ready else .done) jump)) ∧
      (W3.putObj (w.heap.size + 1) (.loop (rec (if jump.isNone then .ready else .done) jump))).heap[w.heap.size]? = some (.deferred (some [])) := fun jump W3 hk3 => by
      have hl3 := hk3.same _ _ (by omega) hl2 rfl
      have := run_endRound (P := P) jump hl3
      rw [hrec] at this ⊢
      exact ⟨this, by rw [hrec] at hl3; exact hl3, World.putObj_heap_same (Array.getElem?_eq_some_iff.1 hl3).1, (World.putObj_heap_other (by omega)).trans (hk3.same _ _ (Nat.le_refl _) hk2 rfl)⟩
     rintro e a3 W3 hp
     cases e with
     | normal =>
       obtain ⟨hk3, hkp3, hi3⟩ := hp
       obtain ⟨hr, hl3, hl4, hk4⟩ := fin none W3 hk3
       exact ⟨_, _, hr, .inl ⟨rfl, ⟨hI.putObj _ hi3 (by omega) hl3 rfl, hl4, hk4⟩, hKt (hKt hw2 hkp3) (hKb _ _ _ _ (by omega) hl3 rfl rfl)⟩⟩
     | ret =>
       obtain ⟨hk3, hi3⟩ := hp
       obtain ⟨hr, hl3, hl4, hk4⟩ := fin (some .ret) W3 hk3
       exact ⟨_, _, hr, .inr ⟨rfl, .ret, (hIx _).putObj _ hi3 (by omega) hl3 rfl, hl4, hk4⟩⟩
     | exit id =>
       obtain ⟨hk3, hi3⟩ := hp
       obtain ⟨hr, hl3, hl4, hk4⟩ := fin (some (.exit id)) W3 hk3
       exact ⟨_, _, hr, .inr ⟨rfl, .exit id, (hIx _).putObj _ hi3 (by omega) hl3 rfl, hl4, hk4⟩⟩
     | goto t =>
       obtain ⟨hk3, hi3⟩ := hp
       obtain ⟨hr, hl3, hl4, hk4⟩ := fin (some (.goto t)) W3 hk3
       exact ⟨_, _, hr, .inr ⟨rfl, .goto t, (hIx _).putObj _ hi3 (by omega) hl3 rfl, hl4, hk4⟩⟩
     | panic ch => exact hp.elim
     | outgrown => exact hp.elim
   · rintro e W2 ⟨⟨v, rfl⟩, (⟨xs, hS, hi, hl, hk⟩ | ⟨pre, hSp, c, hi, hl, hk⟩)⟩
     · exact ⟨none, _, by have := run_endLoop (P := P) hl (by rw [hrec]; simp); rw [hrec] at this; exact this, hdone _ xs _ (Nat.le_refl _) hS (hI.putObj _ hi (by omega) hl rfl) ((World.putObj_heap_other (by omega)).trans hk)⟩
     · exact ⟨some c, _, by have := run_endLoop (P := P) hl (by rw [hrec]; simp); rw [hrec] at this; exact this, hstop _ c pre _ (Nat.le_refl _) hSp ((hIx c).putObj _ hi (by omega) hl rfl) ((World.putObj_heap_other (by omega)).trans hk)⟩
end
section
open Go.Shelf
attribute [local go_sem] Oper.semAt_some
abbrev SB := { s : ByteArray // s.size ≤ 1000000000 }
def KeepsS (A B : World) : Prop := YR 9 A B ∧ YR 3 A B
def WritesS (sb : Nat) (A B : World) : Prop := ∃ t u, Boxed A sb 9 t ∧ B = A.setCell ⟨sb, 0, none⟩ u
open Classical in
noncomputable def leftS (sb : Nat) (W : World) : Nat := match W.cell? ⟨sb, 0, none⟩ with
 | some (.string t) => t.size
 | _ => 0
theorem left_boxed {sb : Nat} {W : World} {T : TypeId} {t : ByteArray} (h : Boxed W sb T (.string t)) : leftS sb W = t.size := by
 unfold leftS; rw [h.cell]
theorem extract_take (t : ByteArray) (o : Nat) : (t.extract 0 o).data.toList = t.data.toList.take o := by
 rw [ByteArray.data_extract, Array.toList_extract]; simp
theorem extract_drop (t : ByteArray) (o : Nat) : (t.extract o t.size).data.toList = t.data.toList.drop o := by
 rw [ByteArray.data_extract, Array.toList_extract]
 exact List.take_of_length_le (by rw [List.length_drop, Array.length_toList]; exact Nat.le_refl _)
theorem split1_in (n : Nat) (hn : 1 ≤ n) (l q sb v : Nat) (c : UInt8) (s0 : ByteArray) (hlen : s0.size ≤ 1000000000) (J Jx : List SB → World → Prop) (hJi : ∀ s A B, J s A → WritesS sb A B → J s B)
 (hY : ∀ (pre : List SB) (x : SB) (W : World), J pre W → pre.length < (YQ c s0.data.toList).length → YieldAt Fence.wide (n - 1) Tryz.prog l #[.string x.1] W fun e W' =>
  (e = .returned (.bool true) ∧ J (pre ++ [x]) W' ∧ KeepsS W W') ∨ (e = .returned (.bool false) ∧ Jx (pre ++ [x]) W'))
 (W : World) (hq : Boxed W q 9 (.string ⟨#[c]⟩)) (hs : Boxed W sb 9 (.string s0)) (hv : Boxed W v 3 (.int .i64 0)) (hne : q ≠ sb) (h0 : J [] W) :
 CallsIn Fence.wide n Tryz.prog 231 #[.func (.yield l) #[] #[], .pointer (some ⟨q, 0, none⟩), .pointer (some ⟨sb, 0, none⟩), .pointer (some ⟨v, 0, none⟩)] W fun e W' => (∃ v, e = .returned v) ∧
  ((∃ ys : List SB, ys.map (fun s => s.1.data.toList) = YQ c s0.data.toList ∧ J ys W') ∨ (∃ pre : List SB, (∃ rest, pre.map (fun s => s.1.data.toList) ++ rest = YQ c s0.data.toList) ∧ Jx pre W')) := by
 refine callsIn_of_wp Tryz.func231 rfl trivial ?_ rfl
 simp only [Tryz.ntmps231, List.size_toArray, List.length_cons, List.length_nil, Nat.reduceAdd, Nat.reduceSub, Array.replicate_succ, Array.replicate_zero, List.push_toArray, List.append_toArray, List.nil_append, List.cons_append]
 have hqc := hq.cell
 gi_wp2
 gi_loopw [7] (fun _ wr => ∃ (pre : List SB) (t : ByteArray), pre.map (fun s => s.1.data.toList) ++ YQ c t.data.toList = YQ c s0.data.toList ∧ t.size ≤ 1000000000 ∧ J pre wr ∧
  Boxed wr q 9 (.string ⟨#[c]⟩) ∧ Boxed wr sb 9 (.string t) ∧ Boxed wr v 3 (.int .i64 0))
  (fun _ wr => leftS sb wr)
 case atStart => exact ⟨[], s0, rfl, hlen, h0, hq, hs, hv⟩
 case round =>
  obtain ⟨pre, t, hsp, htl, hJ, hq1, hs1, hv1⟩ := hrel
  have hcq := hq1.cell
  have hcs := hs1.cell
  have hfs := hs1.frozen
  have hcv := hv1.cell
  have IX := Hi (show Calls Tryz.prog 233 #[.string t, .string ⟨#[c]⟩] wr _ from Any.strings_Index_one Tryz.lays143 t c wr)
  have hpl : pre.length < (YQ c s0.data.toList).length := by
   rw [← hsp, List.length_append, List.length_map]
   have : 0 < (YQ c t.data.toList).length := List.length_pos_iff.2 (splitL_ne c _)
   omega
  have HSP := Hi hsp
  have HQ := Hi hq1
  have HS := Hi hs1
  have HV := Hi hv1
  clear hsp hq1 hs1 hv1 hqc hq hs hv h0
  by_cases hneg : Lib.indexByte t.data.toList c < 0
  · obtain ⟨he, hnm⟩ := index_neg hneg
    rw [he] at IX
    clear he hneg
    have HSN := Hi (splitL_none hnm)
    clear hnm
    obtain ⟨fn, tmps, assign, body, hy, hR⟩ := hY pre ⟨t, htl⟩ wr hJ hpl
    dsimp only at hy
    clear hY
    gi_wp2_with fail
    refine ⟨trivial, ?_⟩
    refine (callsIn_wide.2 IX.out).mono ?_
    rintro e w' ⟨rfl, rfl⟩
    clear IX
    gi_wp2
    refine hR.mono ?_
    rintro e W3 (⟨rfl, hJ3, -⟩ | ⟨rfl, hJx3⟩)
    · gi_wp2
      go_end0
      exact ⟨⟨_, rfl⟩, .inl ⟨_, by rw [List.map_append, ← HSP.out, HSN.out]; rfl, hJ3⟩⟩
    · gi_wp2
      go_end0
      exact ⟨⟨_, rfl⟩, .inr ⟨_, ⟨[], by rw [List.map_append, List.append_nil, ← HSP.out, HSN.out]; rfl⟩, hJx3⟩⟩
  · obtain ⟨o, he, ho, hnm, hcat⟩ := index_nat hneg
    rw [he] at IX
    clear he hneg
    have hos : o < t.size := by rw [Array.length_toList] at ho; exact ho
    obtain ⟨fn, tmps, assign, body, hy, hR⟩ := hY pre ⟨t.extract 0 o, by rw [ByteArray.size_extract]; omega⟩ wr hJ hpl
    dsimp only at hy
    clear hY
    gi_wp2_with fail
    refine ⟨trivial, ?_⟩
    refine (callsIn_wide.2 IX.out).mono ?_
    rintro e w' ⟨rfl, rfl⟩
    clear IX
    gi_wp2
    refine hR.mono ?_
    rintro e W3 (⟨rfl, hJ3, hk3⟩ | ⟨rfl, hJx3⟩)
    · have hcq3 := (show Boxed W3 q _ _ from hk3.1.box HQ.out).cell
      have hs3 : Boxed W3 sb 9 (.string t) := hk3.1.box HS.out
      have hcs3 := hs3.cell
      have hfs3 := hs3.frozen
      have HQ3 := Hi (show Boxed W3 q 9 (.string ⟨#[c]⟩) from hk3.1.box HQ.out)
      have HV3 := Hi (show Boxed W3 v 3 (.int .i64 0) from hk3.2.box HV.out)
      have HS3 := Hi hs3
      have HJ3 := Hi hJ3
      clear hcq hcs hfs hcv HQ HV hs3 hk3 hJ3 hJ
      gi_wp2
      go_roundw
      case rel =>
       refine ⟨pre ++ [⟨t.extract 0 o, by rw [ByteArray.size_extract]; omega⟩], t.extract (o + 1) t.size, ?_, ?_, hJi _ _ _ HJ3.out ⟨_, _, HS3.out, rfl⟩, ?_, HS3.out.set _, ?_⟩
       · rw [List.map_append, List.append_assoc, ← HSP.out, extract_drop]
         congr 1
         have hx := splitL_at (b := t.data.toList.drop (o + 1)) hnm
         rw [← hcat] at hx
         rw [hx, List.map_cons, List.map_nil, extract_take]
         rfl
       · rw [ByteArray.size_extract]; omega
       · exact HQ3.out.kept (grownBy_setCell' _ _ _) (by simp [hne])
       · refine HV3.out.kept (grownBy_setCell' _ _ _) (fun e => ?_)
         injection e with e
         subst e
         have := (show W3.heap[v]? = _ from HV3.out).symm.trans HS3.out
         simp at this
      case measure =>
       rw [left_boxed HS.out, left_boxed (HS3.out.set _), ByteArray.size_extract]
       omega
    · gi_wp2
      refine bodyPost_ret (results_none rfl _ _ _) rfl ?_
      refine ⟨⟨_, rfl⟩, .inr ⟨_, ⟨YQ c (t.data.toList.drop (o + 1)), ?_⟩, hJx3⟩⟩
      rw [List.map_append, List.append_assoc, ← HSP.out]
      congr 1
      have hx := splitL_at (b := t.data.toList.drop (o + 1)) hnm
      rw [← hcat] at hx
      rw [hx, List.map_cons, List.map_nil, extract_take]
      rfl
theorem splitSeq_any (s sep : ByteArray) (w : World) :
 Calls Tryz.prog 221 #[.string s, .string sep, .int .i64 0] w fun e w' =>
  e = .returned (.func (.func 231) #[] #[.pointer (some ⟨w.heap.size + 1, 0, none⟩), .pointer (some ⟨w.heap.size, 0, none⟩), .pointer (some ⟨w.heap.size + 2, 0, none⟩)]) ∧
  w' = ((w.alloc (.cells #[.string s] 9)).alloc (.cells #[.string sep] 9)).alloc (.cells #[.int .i64 0] 3) := by
 go_enter Tryz.func221, Tryz.ntmps221
 go_wp2_with fail
 go_ret
 exact ⟨rfl, rfl⟩
theorem SplitSeq_any (s sep : ByteArray) (w : World) :
 Calls Tryz.prog 205 #[.string s, .string sep] w fun e w' =>
  e = .returned (.func (.func 231) #[] #[.pointer (some ⟨w.heap.size + 1, 0, none⟩), .pointer (some ⟨w.heap.size, 0, none⟩), .pointer (some ⟨w.heap.size + 2, 0, none⟩)]) ∧
  w' = ((w.alloc (.cells #[.string s] 9)).alloc (.cells #[.string sep] 9)).alloc (.cells #[.int .i64 0] 3) := by
 go_enter Tryz.func205, Tryz.ntmps205
 go_wp2_with fail
 refine (splitSeq_any _ _ _).mono ?_
 rintro e w' ⟨rfl, rfl⟩
 go_wp2_with fail
 go_ret
 exact ⟨rfl, rfl⟩
theorem split_does (n : Nat) (hn : 1 ≤ n) (q sb v : Nat) (c : UInt8) (s0 : ByteArray) (hlen : s0.size ≤ 1000000000) (w : World)
 (hq : Boxed w q 9 (.string ⟨#[c]⟩)) (hs : Boxed w sb 9 (.string s0)) (hv : Boxed w v 3 (.int .i64 0)) (hne : q ≠ sb) :
 SeqDoes Fence.wide n Tryz.prog 231 #[.pointer (some ⟨q, 0, none⟩), .pointer (some ⟨sb, 0, none⟩), .pointer (some ⟨v, 0, none⟩)] (fun x : SB => #[Value.string x.1]) KeepsS (WritesS sb)
  (fun ys => ys.map (fun s => s.1.data.toList) = YQ c s0.data.toList) (fun pre => ∃ rest, pre.map (fun s => s.1.data.toList) ++ rest = YQ c s0.data.toList) (YQ c s0.data.toList).length w := fun l J Jx W hW hJi hY h0 =>
 split1_in n hn l q sb v c s0 hlen J Jx hJi hY W ((hW.block q hq.lt).trans hq) ((hW.block sb hs.lt).trans hs) ((hW.block v hv.lt).trans hv) hne h0
end
section
open Go.Shelf
theorem ZX {W W' : World} {b : Nat} {t : TypeId} {v : Value} {row : Option Nat} (h : Boxed W b t v) (hg : W.grownBy W' row) (hr : ∀ r, row = some r → ∃ o : Obj, W.heap[r]? = some o ∧ o.isCells = false) : Boxed W' b t v := by
 refine h.kept hg (fun e => ?_)
 obtain ⟨o, ho, hc⟩ := hr b e.symm
 rw [show W.heap[b]? = _ from h] at ho
 cases ho
 simp [Obj.isCells] at hc
theorem Boxed.behind {W W' : World} {b : Nat} {t : TypeId} {v : Value} (h : Boxed W b t v) (hb : Below W.heap.size W W') : Boxed W' b t v := (hb.block b h.lt).trans h
theorem keepsO_below {W W' : World} (hb : Below W.heap.size W W') : KeepsOthers W W' :=
 KeepsOthers.of_grownBy (row := none) ⟨hb.os, hb.tape, hb.output, hb.size, fun k hk _ => hb.block k hk⟩ (fun j o e _ => by cases e)
theorem keepsS_t {A B C : World} (h : KeepsS A B) (k : KeepsS B C) : KeepsS A C := ⟨keepsT_t h.1 k.1, keepsT_t h.2 k.2⟩
theorem keepsT_b {T : TypeId} {w : World} (W : World) (l : Nat) (o o' : Obj) (_ : w.heap.size ≤ l) (h : W.heap[l]? = some o) (hc : o.isCells = false) (_ : o.isWalk = false) : YR T W (W.putObj l o') :=
 YR.grown (grownBy_putObj' W l o') (fun r e cs fr hi => by
  cases e
  rw [h] at hi
  injection hi with hi
  subst hi
  simp [Obj.isCells] at hc)
theorem splitL_len (c : UInt8) : ∀ l, (YQ c l).length ≤ l.length + 1
 | [] => by simp [YQ]
 | b :: l => by
   have ih := splitL_len c l
   unfold YQ
   split
   · simp; omega
   · split
     · simp
     · rename_i h
       rw [h] at ih
       simp only [List.length_cons] at ih ⊢
       omega
theorem parseNumber_any (s : ByteArray) (hs : s.size ≤ 1000000000) (w : World) (henv : Env w) :
 Calls Tryz.prog 223 #[.string s] w fun e w' => e = .returned (.tuple #[.int .u32 ((numP s.data.toList).1 : Nat), .bool (numP s.data.toList).2]) ∧ Below w.heap.size w w' := by
 have hb := btl s
 unfold numP
 by_cases h : s.data.toList = [42]
 · have h1 : (s.toList == [42]) = true := by rw [hb, h]; rfl
   rw [if_pos h]
   clear h henv hb
   go_enter Tryz.func223, Tryz.ntmps223
   go_wp2
   go_ret2
   exact ⟨rfl, Below.refl _ _⟩
 · have h1 : (s.toList == [42]) = false := by rw [hb]; simpa using h
   rw [if_neg h]
   have N := Hi (number_any s (by omega) w henv)
   clear h henv hb
   generalize (QH s.data.toList).getD 0 = x at *
   generalize (QH s.data.toList).isSome = y at *
   go_enter Tryz.func223, Tryz.ntmps223
   cases y with
   | false =>
     go_wp2_with fail
     refine N.out.mono ?_
     rintro e w1 ⟨rfl, h2⟩
     go_wp2_with fail
     go_ret2
     exact ⟨by simp, h2⟩
   | true =>
     by_cases h0 : 0 < x
     · go_wp2_with fail
       refine N.out.mono ?_
       rintro e w1 ⟨rfl, h2⟩
       go_wp2_with fail
       go_ret2
       exact ⟨by simp [h0], h2⟩
     · go_wp2_with fail
       refine N.out.mono ?_
       rintro e w1 ⟨rfl, h2⟩
       go_wp2_with fail
       go_ret2
       exact ⟨by simp [h0], h2⟩
theorem below_drewN {B : Nat} {a w : World} (h : Below B a w) (n : Nat) : Below B a (w.drewN n) := ⟨h.os, h.tape, h.output, h.size, h.block⟩
theorem slIndex (s : ByteArray) (c : UInt8) (w : World) : Calls Tryz.prog 243 #[.string s, .string ⟨#[c]⟩] w fun e w' => e = .returned (.int .i64 (Lib.indexByte s.data.toList c)) ∧ w' = w := Any.stringslite_Index_one Tryz.lays219 s c w
theorem slCut_none (s : ByteArray) (c : UInt8) (w : World) (h : Lib.indexByte s.data.toList c = -1) :
 Calls Tryz.prog 234 #[.string s, .string ⟨#[c]⟩] w fun e w' => e = .returned (.tuple #[.string s, .string ⟨#[]⟩, .bool false]) ∧ Below w.heap.size w w' := by
 have I := slIndex s c w
 rw [h] at I
 have I := Hi I
 clear h
 go_enter Tryz.func234, Tryz.ntmps234
 go_wp2_with fail
 refine I.out.mono ?_
 rintro e w' ⟨rfl, rfl⟩
 clear I
 go_wp2_with fail
 go_ret3
 exact ⟨rfl, Below.refl _ _⟩
theorem slCut_at (s : ByteArray) (hs : s.size ≤ 1000000000) (c : UInt8) (o : Nat) (ho : o < s.size) (w : World) (h : Lib.indexByte s.data.toList c = o) :
 Calls Tryz.prog 234 #[.string s, .string ⟨#[c]⟩] w fun e w' => e = .returned (.tuple #[.string (s.extract 0 o), .string (s.extract (o + 1) s.size), .bool true]) ∧ Below w.heap.size w w' := by
 have I := slIndex s c w
 rw [h] at I
 have I := Hi I
 clear h
 go_enter Tryz.func234, Tryz.ntmps234
 go_wp2_with fail
 refine I.out.mono ?_
 rintro e w' ⟨rfl, rfl⟩
 clear I
 go_wp2_with fail
 go_quiet (fail)
 go_wp2_with fail
 go_ret3
 exact ⟨rfl, below_drewN (Below.refl _ _) _⟩
theorem cut_any (s : ByteArray) (c : UInt8) (w : World) {a b : ByteArray} {f : Bool} (h : Calls Tryz.prog 234 #[.string s, .string ⟨#[c]⟩] w fun e w' => e = .returned (.tuple #[.string a, .string b, .bool f]) ∧ Below w.heap.size w w') :
 Calls Tryz.prog 222 #[.string s, .string ⟨#[c]⟩] w fun e w' => e = .returned (.tuple #[.string a, .string b, .bool f]) ∧ Below w.heap.size w w' := by
 have H := Hi h
 clear h
 go_enter Tryz.func222, Tryz.ntmps222
 go_wp2_with fail
 refine H.out.mono ?_
 rintro e w' ⟨rfl, hb⟩
 go_wp2_with fail
 go_ret3
 exact ⟨rfl, hb⟩
theorem ext_take (t : ByteArray) (o : Nat) : (t.extract 0 o).data.toList = t.data.toList.take o := by
 rw [ByteArray.data_extract, Array.toList_extract]; simp
theorem ext_drop (t : ByteArray) (o : Nat) : (t.extract o t.size).data.toList = t.data.toList.drop o := by
 rw [ByteArray.data_extract, Array.toList_extract]
 exact List.take_of_length_le (by rw [List.length_drop, Array.length_toList]; exact Nat.le_refl _)
theorem parseRange_any (s : ByteArray) (hs : s.size ≤ 1000000000) (w : World) (henv : Env w) :
 Calls Tryz.prog 206 #[.string s] w fun e w' => e = .returned (.tuple #[.agg #[.int .u32 ((rngP s.data.toList).1.1 : Nat), .int .u32 ((rngP s.data.toList).1.2 : Nat)], .bool (rngP s.data.toList).2]) ∧ Below w.heap.size w w' := by
 have HE := fun w1 (hB : Below w.heap.size w w1) => Hi (henv.below hB)
 clear henv
 unfold rngP
 by_cases hneg : Lib.indexByte s.data.toList 58 < 0
 · rw [if_pos hneg]
   obtain ⟨he, _⟩ := index_neg hneg
   have C := fun w1 => Hi (cut_any s 58 w1 (slCut_none s 58 w1 he))
   have N := fun w1 (h : Hid (Env w1)) => Hi (parseNumber_any s hs w1 h.out)
   clear he hneg
   generalize (numP s.data.toList) = a at *
   obtain ⟨x, y⟩ := a
   have P := fun w1 => Hi (point_any x w1)
   dsimp only at N ⊢
   go_enter Tryz.func206, Tryz.ntmps206
   go_wp2_with fail
   refine (C _).out.mono ?_
   rintro e w1 ⟨rfl, h1⟩
   have hB1 := YA ((Below.refl w.heap.size w).alloc (Nat.le_refl _) _) h1
   have hX := (h1.block w.heap.size (by simp)).trans (YD w (.cells #[.int .u32 0, .int .u32 0] 50))
   have HX := Hi hX
   clear h1 C hX
   go_wp2_with fail
   refine (N _ (HE _ hB1)).out.mono ?_
   rintro e w2 ⟨rfl, h2⟩
   have hB2 := YA hB1 h2
   have HX := Hi ((h2.block w.heap.size (Array.getElem?_eq_some_iff.1 HX.out).1).trans HX.out)
   clear h2 N hB1 HE
   go_wp2_with fail
   refine (P _).out.mono ?_
   rintro e w3 ⟨rfl, h2⟩
   have hB3 := YA hB2 h2
   have hX := (h2.block w.heap.size (Array.getElem?_eq_some_iff.1 HX.out).1).trans HX.out
   have hc0 := cell_of_row w3 w.heap.size 0 _ _ _ hX
   have hc1 := cell_of_row w3 w.heap.size 1 _ _ _ hX
   have hf0 : w3.frozen? ⟨w.heap.size, 0, none⟩ = false := by simp [World.frozen?, hX]
   have hf1 : w3.frozen? ⟨w.heap.size, 1, none⟩ = false := by simp [World.frozen?, hX]
   simp at hc0 hc1
   clear h2 hB2 hX HX P
   go_wp2_with fail
   refine bodyPost_ret (v := .tuple #[.agg #[.int .u32 (x : Int), .int .u32 (x : Int)], .bool y]) (by simp [results, Tryz.results206, go_sem, hc0, hc1]) rfl ⟨rfl, (hB3.setCell (p := ⟨w.heap.size, 0, none⟩) (Nat.le_refl _) _).setCell (p := ⟨w.heap.size, 1, none⟩) (Nat.le_refl _) _⟩
 · rw [if_neg hneg]
   obtain ⟨o, he, ho, _, _⟩ := index_nat hneg
   have hos : o < s.size := by rw [Array.length_toList] at ho; exact ho
   rw [he, Int.toNat_natCast, ← ext_take s o, ← ext_drop s (o + 1)]
   have C := fun w1 => Hi (cut_any s 58 w1 (slCut_at s hs 58 o hos w1 he))
   have l1 : (s.extract 0 o).size ≤ 1000000000 := by rw [ByteArray.size_extract]; omega
   have l2 : (s.extract (o + 1) s.size).size ≤ 1000000000 := by rw [ByteArray.size_extract]; omega
   clear he hneg ho hos hs
   generalize s.extract 0 o = s1 at *
   generalize s.extract (o + 1) s.size = s2 at *
   have N1 := fun w1 (h : Hid (Env w1)) => Hi (parseNumber_any s1 l1 w1 h.out)
   have N2 := fun w1 (h : Hid (Env w1)) => Hi (parseNumber_any s2 l2 w1 h.out)
   generalize (numP s1.data.toList) = a at *
   generalize (numP s2.data.toList) = b at *
   obtain ⟨x, y⟩ := a
   obtain ⟨x2, y2⟩ := b
   dsimp only at N1 N2 ⊢
   go_enter Tryz.func206, Tryz.ntmps206
   go_wp2_with fail
   refine (C _).out.mono ?_
   rintro e w1 ⟨rfl, h1⟩
   have hB1 := YA ((Below.refl w.heap.size w).alloc (Nat.le_refl _) _) h1
   have hX := (h1.block w.heap.size (by simp)).trans (YD w (.cells #[.int .u32 0, .int .u32 0] 50))
   have HX := Hi hX
   clear h1 C hX
   go_wp2_with fail
   refine (N1 _ (HE _ hB1)).out.mono ?_
   rintro e w2 ⟨rfl, h2⟩
   have hB2 := YA hB1 h2
   have HX := Hi ((h2.block w.heap.size (Array.getElem?_eq_some_iff.1 HX.out).1).trans HX.out)
   clear h2 N1 hB1
   go_wp2_with fail
   refine (N2 _ (HE _ hB2)).out.mono ?_
   rintro e w3 ⟨rfl, h2⟩
   have hB3 := YA hB2 h2
   have hX := (h2.block w.heap.size (Array.getElem?_eq_some_iff.1 HX.out).1).trans HX.out
   have hc0 := cell_of_row w3 w.heap.size 0 _ _ _ hX
   have hc1 := cell_of_row w3 w.heap.size 1 _ _ _ hX
   have hf0 : w3.frozen? ⟨w.heap.size, 0, none⟩ = false := by simp [World.frozen?, hX]
   have hf1 : w3.frozen? ⟨w.heap.size, 1, none⟩ = false := by simp [World.frozen?, hX]
   simp at hc0 hc1
   clear h2 hB2 hX HX N2 HE
   cases y <;> cases y2
   all_goals
    go_wp2_with fail
    refine bodyPost_ret (v := .tuple #[.agg #[.int .u32 (x : Int), .int .u32 (x2 : Int)], .bool _]) (by simp [results, Tryz.results206, go_sem, hc0, hc1]) rfl ⟨rfl, (hB3.setCell (p := ⟨w.heap.size, 0, none⟩) (Nat.le_refl _) _).setCell (p := ⟨w.heap.size, 1, none⟩) (Nat.le_refl _) _⟩
end
section
open Go.Shelf
attribute [local go_sem] Oper.semAt_some
def rngS (p : SB) : R × Bool := rngP p.1.data.toList
def ParseI (n0 : Nat) (pre : List SB) (W : World) : Prop :=
 Boxed W n0 22 (.slice none 0 0) ∧ Boxed W (n0 + 1) 4 (.bool false) ∧ (∃ u, Boxed W (n0 + 3) 9 u) ∧
  ∃ v, Boxed W (n0 + 2) 22 v ∧ W.ownsRow n0 50 2 v pre.length (YF encR (pre.map fun p => (rngS p).1)) ∧ ∀ p ∈ pre, (rngS p).2 = true
def ParseX (n0 : Nat) (c : Code) (pre : List SB) (W : World) : Prop :=
 c = .ret ∧ (∃ p ∈ pre, (rngS p).2 = false) ∧ Boxed W n0 22 (.slice none 0 0) ∧ Boxed W (n0 + 1) 4 (.bool false)
theorem parseI_own (n0 : Nat) : Own (ParseI n0) := by
 rintro s X Y row ⟨h1, h2, ⟨u, h3⟩, v, h4, h5, h6⟩ hg hr
 refine ⟨ZX h1 hg hr, ZX h2 hg hr, ⟨u, ZX h3 hg hr⟩, v, ZX h4 hg hr, h5.kept hg ?_, h6⟩
 rcases h5.2 with ⟨rfl, _⟩ | ⟨g, cap, cur, rfl, _, hgb, _⟩
 · exact .inl rfl
 · refine .inr fun e' => ?_
   obtain ⟨o, ho, hc⟩ := hr g (by simpa [Value.ownBlock] using e'.symm)
   rw [hgb] at ho
   cases ho
   simp [Obj.isCells] at hc
theorem parseX_own (n0 : Nat) (c : Code) : Own (ParseX n0 c) := by
 rintro s X Y row ⟨h0, h00, h1, h2⟩ hg hr
 exact ⟨h0, h00, ZX h1 hg hr, ZX h2 hg hr⟩
theorem parseI_writes (n0 : Nat) (s : List SB) (A B : World) (h : ParseI n0 s A) (hw : WritesS (n0 + 3) A B) : ParseI n0 s B := by
 obtain ⟨h1, h2, ⟨u, h3⟩, v, h4, h5, h6⟩ := h
 obtain ⟨_, x, _, rfl⟩ := hw
 have hg := grownBy_setCell' A (n0 + 3) x
 refine ⟨h1.kept hg (by simp), h2.kept hg (by simp), ⟨x, h3.set x⟩, v, h4.kept hg (by simp), h5.kept hg (.inr (h3.not_row (by decide) h5).symm), h6⟩
theorem below_writes {n0 : Nat} {w A B : World} (h : Below n0 w A) (hw : WritesS (n0 + 3) A B) : Below n0 w B := by
 obtain ⟨_, x, _, rfl⟩ := hw
 exact h.setCell (p := ⟨n0 + 3, 0, none⟩) (by simp) _
theorem box_app {w1 w8 : World} {b B n0 : Nat} {t e : TypeId} {u v : Value} {size k : Nat} {xs : List Value} (hb : Boxed w1 b t u) (hte : t ≠ e) (hrow : w1.ownsRow n0 e size v k xs) {o tmp : Obj}
 (hg : ((w1.alloc o).alloc tmp).grownBy w8 v.ownBlock) (hne : b ≠ B) (x : Value) : Boxed (w8.setCell ⟨B, 0, none⟩ x) b t u :=
 (((hb.alloc o).alloc tmp).kept hg (((hb.alloc o).alloc tmp).not_row hte ((hrow.alloc o).alloc tmp))).kept (grownBy_setCell' w8 B x) (by simpa using hne)
theorem parse_any (s : ByteArray) (hs : s.size ≤ 100000000) (w : World) (henv : Env w) :
 Calls Tryz.prog 182 #[.string s] w fun e w' => ∃ v, e = .returned (.tuple #[v, .bool (YP s.data.toList).2]) ∧
  w'.ownsRow w.heap.size 50 2 v (YP s.data.toList).1.length (YF encR (YP s.data.toList).1) ∧ Below w.heap.size w w' := by
 have HE := fun w1 (hB : Below w.heap.size w w1) => Hi (henv.below hB)
 clear henv
 obtain ⟨pp, hpp⟩ : ∃ pp, YP s.data.toList = pp := ⟨_, rfl⟩
 rw [hpp]
 have HPP := Hi hpp
 clear hpp
 obtain ⟨i0, hi, hz0, hz1, hz2⟩ := info_parts infoR
 refine (callsIn_wide (n := 3)).1 ?_
 refine callsIn_of_wp_marks Tryz.func182 rfl trivial ?_ rfl
 simp only [Tryz.ntmps182, List.size_toArray, List.length_cons, List.length_nil, Nat.reduceAdd, Nat.reduceSub, Array.replicate_succ, Array.replicate_zero, List.push_toArray, List.append_toArray, List.nil_append, List.cons_append]
 gi_wp2_with fail
 refine ⟨trivial, ?_⟩
 refine (callsIn_wide.2 (SplitSeq_any _ _ _)).mono ?_
 rintro e w1 ⟨rfl, rfl⟩
 gi_wp2_with fail
 have HB0 : Below w.heap.size w ((((((w.alloc (.cells #[.slice none 0 0] 22)).alloc (.cells #[.bool false] 4)).alloc (.cells #[.slice none 0 0] 22)).alloc (.cells #[.string s] 9)).alloc (.cells #[.string ⟨#[44]⟩] 9)).alloc (.cells #[.int .i64 0] 3)) := by
  repeat (first | exact Below.refl _ _ | refine Below.alloc ?_ (by simp <;> omega) _)
 have B0 := Boxed.new w 22 (.slice none 0 0)
 have B1 := Boxed.new (w.alloc (.cells #[.slice none 0 0] 22)) 4 (.bool false)
 have B2 := Boxed.new ((w.alloc (.cells #[.slice none 0 0] 22)).alloc (.cells #[.bool false] 4)) 22 (.slice none 0 0)
 have B3 := Boxed.new (((w.alloc (.cells #[.slice none 0 0] 22)).alloc (.cells #[.bool false] 4)).alloc (.cells #[.slice none 0 0] 22)) 9 (.string s)
 have B4 := Boxed.new ((((w.alloc (.cells #[.slice none 0 0] 22)).alloc (.cells #[.bool false] 4)).alloc (.cells #[.slice none 0 0] 22)).alloc (.cells #[.string s] 9)) 9 (.string ⟨#[44]⟩)
 have B5 := Boxed.new (((((w.alloc (.cells #[.slice none 0 0] 22)).alloc (.cells #[.bool false] 4)).alloc (.cells #[.slice none 0 0] 22)).alloc (.cells #[.string s] 9)).alloc (.cells #[.string ⟨#[44]⟩] 9)) 3 (.int .i64 0)
 simp only [World.size_alloc, Nat.add_assoc, Nat.reduceAdd] at B1 B2 B3 B4 B5
 have C0 := ((((B0.alloc (.cells #[.bool false] 4)).alloc (.cells #[.slice none 0 0] 22)).alloc (.cells #[.string s] 9)).alloc (.cells #[.string ⟨#[44]⟩] 9)).alloc (.cells #[.int .i64 0] 3)
 have C1 := (((B1.alloc (.cells #[.slice none 0 0] 22)).alloc (.cells #[.string s] 9)).alloc (.cells #[.string ⟨#[44]⟩] 9)).alloc (.cells #[.int .i64 0] 3)
 have C2 := ((B2.alloc (.cells #[.string s] 9)).alloc (.cells #[.string ⟨#[44]⟩] 9)).alloc (.cells #[.int .i64 0] 3)
 have C3 := (B3.alloc (.cells #[.string ⟨#[44]⟩] 9)).alloc (.cells #[.int .i64 0] 3)
 have C4 := B4.alloc (.cells #[.int .i64 0] 3)
 have hsz : w.heap.size + 6 ≤ ((((((w.alloc (.cells #[.slice none 0 0] 22)).alloc (.cells #[.bool false] 4)).alloc (.cells #[.slice none 0 0] 22)).alloc (.cells #[.string s] 9)).alloc (.cells #[.string ⟨#[44]⟩] 9)).alloc (.cells #[.int .i64 0] 3)).heap.size := by simp
 generalize (((((w.alloc (.cells #[.slice none 0 0] 22)).alloc (.cells #[.bool false] 4)).alloc (.cells #[.slice none 0 0] 22)).alloc (.cells #[.string s] 9)).alloc (.cells #[.string ⟨#[44]⟩] 9)).alloc (.cells #[.int .i64 0] 3) = W0 at *
 clear B0 B1 B2 B3 B4
 have hsl := splitL_len 44 s.data.toList
 have hss : s.data.toList.length ≤ 100000000 := by rw [Array.length_toList]; exact hs
 refine wpIn_rangeFunc_it rfl (by omega) (gf := 231) (lb := #[.pointer (some ⟨w.heap.size + 4, 0, none⟩), .pointer (some ⟨w.heap.size + 3, 0, none⟩), .pointer (some ⟨w.heap.size + 5, 0, none⟩)]) rfl trivial (enters_of Tryz.func231 (by kernel_rfl) rfl)
  (split_does 2 (by omega) (w.heap.size + 4) (w.heap.size + 3) (w.heap.size + 5) 44 s (by omega) W0 C4 C3 B5 (by omega)) (fun h k => keepsS_t h k) (fun W l o o' h1 h2 h3 h4 => ⟨keepsT_b (w := W0) W l o o' h1 h2 h3 h4, keepsT_b (w := W0) W l o o' h1 h2 h3 h4⟩)
  (fun X Y i o hw ho hc => by
   obtain ⟨_, u, hbx, rfl⟩ := hw
   by_cases hi3 : i = w.heap.size + 3
   · subst hi3
     rw [show X.heap[w.heap.size + 3]? = _ from hbx] at ho
     cases ho
     simp [Obj.isCells] at hc
   · exact (Below.heap_setCell X ⟨w.heap.size + 3, 0, none⟩ u i hi3).trans ho)
  (Below.refl _ _) (fun _ => rfl)
  (fun pre W => ParseI w.heap.size pre W ∧ Below w.heap.size w W)
  (fun c pre W => ParseX w.heap.size c pre W ∧ Below w.heap.size w W)
  (OwnFrom.and (Own.from (parseI_own _) _) (ownFrom_below (Nat.le_refl _) (by omega)))
  (fun c => OwnFrom.and (Own.from (parseX_own _ c) _) (ownFrom_below (Nat.le_refl _) (by omega)))
  (fun s A B h hw => ⟨parseI_writes _ s A B h.1 hw, below_writes h.2 hw⟩)
  ⟨⟨C0, C1, ⟨_, C3⟩, _, C2, World.ownsRow_nil _ _ _ _, by simp⟩, HB0⟩
  ?a1 ?assign ?body ?done ?stop
 case assign =>
  intro l x W K hK
  gi_wp2
  exact hK
 case body =>
  rintro l pre x W ⟨⟨h1, h2, ⟨u3, h3⟩, v, h4, h5, h6⟩, hB⟩ hlt
  have PR := Hi (parseRange_any x.1 (by have := x.2; omega) W (HE W hB).out)
  have hxr : rngS x = rngP x.1.data.toList := rfl
  rw [← hxr] at PR
  have HXR : rngS x = ((rngS x).1, (rngS x).2) := rfl
  have hpl : pre.length ≤ 100000001 := by omega
  have H6 := Hi h6
  clear hxr h6 HXR
  have HIX : ∀ r : R × Bool, rngS x = r → Hid (rngS x = r) := fun r h => Hi h
  generalize hrx : rngS x = r at PR
  have HR := Hi hrx
  clear HIX hrx
  obtain ⟨⟨lo, hi'⟩, ok⟩ := r
  dsimp only at PR
  gi_wp2_with fail
  refine ⟨trivial, ?_⟩
  refine (CallsIn.inRound l (callsIn_wide.2 PR.out)).mono ?_
  rintro e w1 ⟨rfl, hb1⟩
  have b1 := Boxed.behind h1 hb1
  have b2 := Boxed.behind h2 hb1
  have b3 := Boxed.behind h3 hb1
  have b4 := Boxed.behind h4 hb1
  have o1 := ZP h5 hb1
  have hB1 := hB.trans (hb1.mono hB.size)
  have hKO := keepsO_below hb1
  have hk1 : KeepsS W w1 := ⟨(YR.refl _ W).below hb1, (YR.refl _ W).below hb1⟩
  have hs1 := hB1.size
  clear PR h1 h2 h3 h4 h5 hb1 hB
  have q1 : w.heap.size < w1.heap.size := b1.lt
  have q2 : w.heap.size + 1 < w1.heap.size := b2.lt
  have q4 : w.heap.size + 1 + 1 < w1.heap.size := b4.lt
  cases ok with
  | false =>
    have c1 := b1.cell
    have f1 := b1.frozen
    have c2 := b2.cell
    have f2 := b2.frozen
    gi_wp2_with fail
    have HK := hKO.trans (((KeepsOthers.setCell w1 ⟨w.heap.size, 0, none⟩ (.slice none 0 0)).trans (KeepsOthers.setCell _ ⟨w.heap.size + 1, 0, none⟩ (.bool false))).trans (KeepsOthers.alloc _ (.cells #[.int .u32 (lo : Int), .int .u32 (hi' : Int)] 50)))
    exact ⟨HK.from _, ⟨rfl, ⟨x, by simp, by rw [HR.out]⟩, ((b1.set _).kept (grownBy_setCell' _ _ _) (by simp)).alloc _, ((b2.kept (grownBy_setCell' _ _ _) (by simp)).set _).alloc _⟩, ((hB1.setCell (p := ⟨w.heap.size, 0, none⟩) (Nat.le_refl _) _).setCell (p := ⟨w.heap.size + 1, 0, none⟩) (by simp) _).alloc (by simp; omega) _⟩
  | true =>
    have c4 : w1.cell? ⟨w.heap.size + 1 + 1, 0, none⟩ = some v := b4.cell
    have f4 : w1.frozen? ⟨w.heap.size + 1 + 1, 0, none⟩ = false := b4.frozen
    gi_wp2_with (gi_at_builtin; refine wpListIn_append_own _ rfl _ _ 22 rfl w.heap.size 50 i0 _ 2 8 Tryz.underlying22 hi hz0 hz1 hz2 rfl (by decide) _ _ _ rfl ((o1.alloc _).alloc _) ⟨w1.heap.size + 1, 0, none⟩ 1 1 [.int .u32 (lo : Int), .int .u32 (hi' : Int)] rfl rfl (cells_new2 (by simp) _ _ _) (by intro u hu; simp at hu; rcases hu with rfl | rfl <;> rfl) (by unfold maxLen; omega) (by omega) (by simp; omega) ?_; intro v' w8 hown' hgrow _; obtain ⟨g', cap', rfl⟩ := ownsRow_succ hown'; obtain ⟨hv1, hv2, hr2, hk2, hb2⟩ := (b4.alloc _).appended (by decide) (o1.alloc _) (by simp; omega) (by simp) hown' hgrow; have hc1 : w8.cell? ⟨w.heap.size + 1 + 1, 0, none⟩ = some v := hv1.cell; have hf1 : w8.frozen? ⟨w.heap.size + 1 + 1, 0, none⟩ = false := hv1.frozen)
    have HK := (hKO.trans ((KeepsOthers.alloc w1 (.cells #[.int .u32 (lo : Int), .int .u32 (hi' : Int)] 50)).trans hk2)).from W0.heap.size
    have HT : ∀ T, T ≠ 50 → T ≠ 22 → YR T W w1 → YR T W (w8.setCell ⟨w.heap.size + 2, 0, none⟩ (.slice (some ⟨g', 0, none⟩) (pre.length + 1) cap')) := fun T t1 t2 hk =>
     keepsT_t (hk.alloc _) ((YR.app (o1.alloc _) t1.symm hgrow).set_ hv1 t2.symm _)
    exact ⟨HK, ⟨HT _ (by decide) (by decide) hk1.1, HT _ (by decide) (by decide) hk1.2⟩,
     ⟨box_app b1 (by decide) o1 hgrow (by omega) _, box_app b2 (by decide) o1 hgrow (by omega) _, ⟨_, box_app b3 (by decide) o1 hgrow (by omega) _⟩, _, hv2, by simpa [YF, encR, HR.out] using hr2, fun p hp => by
      rcases List.mem_append.1 hp with hp | hp
      · exact H6.out p hp
      · obtain rfl : p = x := by simpa using hp
        rw [HR.out]⟩, (hB1.alloc hs1 _).trans hb2⟩
 case done =>
  rintro D ys W hD hys ⟨⟨h1, h2, -, v, h4, h5, h6⟩, hB⟩ hK
  have hys' : (YQ 44 s.data.toList) = ys.map (fun s => s.1.data.toList) := hys.symm
  have hP : YP s.data.toList = (ys.map (fun p => (rngS p).1), true) := by
   unfold YP
   rw [hys', if_pos (by
    rw [List.all_map, List.all_eq_true]
    exact fun p hp => h6 p hp), List.map_map]
   rfl
  rw [HPP.out] at hP
  obtain ⟨A', c', rfl⟩ := YV h5
  have c1 := h1.cell
  have f1 := h1.frozen
  have c2 := h2.cell
  have f2 := h2.frozen
  have c4 : W.cell? ⟨w.heap.size + 1 + 1, 0, none⟩ = some (.slice A' ys.length c') := h4.cell
  subst hP
  clear hys hys' h6 HPP
  have q1 : w.heap.size < W.heap.size := h1.lt
  gi_wp2
  have hK2 := (KeepsOthers.setCell (W.setCell ⟨w.heap.size, 0, none⟩ (.slice A' ys.length c')) ⟨w.heap.size + 1, 0, none⟩ (.bool true)).same D _ ((KeepsOthers.setCell W ⟨w.heap.size, 0, none⟩ (.slice A' ys.length c')).same D _ hK rfl) rfl
  have b1 := (h1.set (.slice A' ys.length c')).kept (grownBy_setCell' _ (w.heap.size + 1) (.bool true)) (by simp)
  have b2 := (h2.kept (grownBy_setCell' W w.heap.size (.slice A' ys.length c')) (by simp)).set (.bool true)
  have o1 := (h5.kept (grownBy_setCell' W w.heap.size (.slice A' ys.length c')) (.inr (h1.not_row (by decide) h5).symm)).kept (grownBy_setCell' _ (w.heap.size + 1) (.bool true)) (.inr (by
   have := h2.not_row (by decide) h5
   exact this.symm))
  have hB2 := (hB.setCell (p := ⟨w.heap.size, 0, none⟩) (Nat.le_refl _) (.slice A' ys.length c')).setCell (p := ⟨w.heap.size + 1, 0, none⟩) (by simp) (.bool true)
  have hD2 : w.heap.size ≤ D := by omega
  refine ⟨by simp, .inl ⟨_, _, rfl, run_takeDeferred hK2, ?_⟩⟩
  have d1 := (ZX b1 (grownBy_putObj' _ D (.deferred none)) (fun r e => by cases e; exact ⟨_, hK2, rfl⟩)).cell
  have d2 := (ZX b2 (grownBy_putObj' _ D (.deferred none)) (fun r e => by cases e; exact ⟨_, hK2, rfl⟩)).cell
  refine ⟨.tuple #[.slice A' ys.length c', .bool true], ?_, .slice A' ys.length c', rfl, ?_, ?_⟩
  · simp [results, Tryz.f182, go_sem, d1, d2]
  · exact ownsRow_putObj o1 _ hK2 rfl
  · exact hB2.trans (belowK_b (w := w) (Nat.le_refl _) _ D _ _ hD2 hK2 rfl rfl)
 case stop =>
  rintro D c pre W hD ⟨rest, hrest⟩ ⟨⟨rfl, ⟨p, hp, hbad⟩, h1, h2⟩, hB⟩ hK
  have hP : YP s.data.toList = ([], false) := by
   unfold YP
   rw [if_neg]
   rw [← hrest, List.all_append, List.all_map]
   intro h
   rw [Bool.and_eq_true, List.all_eq_true] at h
   have := h.1 p hp
   have hb2 : (rngP p.1.data.toList).2 = false := hbad
   simp [hb2] at this
  rw [HPP.out] at hP
  subst hP
  clear HPP
  gi_wp2
  have hD2 : w.heap.size ≤ D := by omega
  refine ⟨by simp, .inl ⟨_, _, rfl, run_takeDeferred hK, ?_⟩⟩
  have d1 := (ZX h1 (grownBy_putObj' _ D (.deferred none)) (fun r e => by cases e; exact ⟨_, hK, rfl⟩)).cell
  have d2 := (ZX h2 (grownBy_putObj' _ D (.deferred none)) (fun r e => by cases e; exact ⟨_, hK, rfl⟩)).cell
  refine ⟨.tuple #[.slice none 0 0, .bool false], ?_, .slice none 0 0, rfl, World.ownsRow_nil _ _ _ _, ?_⟩
  · simp [results, Tryz.f182, go_sem, d1, d2]
  · exact hB.trans (belowK_b (w := w) (Nat.le_refl _) _ D _ _ hD2 hK rfl rfl)
end
end Go.Proofs.YtpgfnlhfciacoaaGreatDoor
