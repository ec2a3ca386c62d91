/- frame: frames, the iterator over a splitter. -/
import Derived.Test.YtldlghfjinpnkaaDoorFramesM
import Derived.OwnWalkIn
import Derived.TacticsInMore
import Derived.LoopNIn
import Derived.LoopIn
namespace Go.Proofs.YtldlghfjinpnkaaDoor
open Go.RowKit
attribute [local go_sem] Oper.semAt_some

/-- Between two rounds: the frame that comes, if there is one. -/
def StF (B bs g : Nat) (R0 : List UInt8) (pre : List FV) (x : Int) (A : Option Addr) (m c : Nat) (b : Bool) (wr : World) : Prop :=
  ∃ R' k', Spl B bs g R' k' wr ∧ ((b = true ∧ ∃ f : Fr, x = (f.kind : Int) ∧ m = f.data.length ∧ (∃ g', BRow g' wr A c f.data) ∧ Runs R0 0 (pre.map FV.f ++ [f]) R' k') ∨ (b = false ∧ Runs R0 0 (pre.map FV.f) R' k' ∧ Done R' k'))

/-- Where it ends. -/
def SF (B bs g : Nat) (R0 : List UInt8) (xs : List FV) (W : World) : Prop := ∃ R' k', Runs R0 0 (xs.map FV.f) R' k' ∧ Done R' k' ∧ Spl B bs g R' k' W

theorem stF_next {B bs g k : Nat} {R0 R : List UInt8} {pre : List FV} {w w' : World} {x : Int} {A : Option Addr} {m c : Nat} {b : Bool} (hr : Runs R0 0 (pre.map FV.f) R k) (h : NxRes B bs g R k w x (.slice A m c) b w') : StF B bs g R0 pre x A m c b w' := by
  rcases h with ⟨f, R', k', h1, h2, h3, ⟨A', c', g', h4, h5, _⟩, h6, _⟩ | ⟨h1, h2, h3, h4, h5, _⟩
  · injection h4 with e1 e2 e3
    subst e1 e2 e3
    exact ⟨R', k', h6, .inl ⟨h3, f, h2, rfl, ⟨g', h5⟩, hr.snoc h1⟩⟩
  · exact ⟨R, k, h5, .inr ⟨h4, hr, h1⟩⟩
theorem StF.typed {B bs g r : Nat} {R0 : List UInt8} {pre : List FV} {x : Int} {A : Option Addr} {m c : Nat} {b : Bool} {w w' : World} {cs : Array Value} {T : TypeId} {fr : Nat × Nat} (h : StF B bs g R0 pre x A m c b w) (hk : w.grownBy w' (some r)) (hr : w.heap[r]? = some (.cells cs T fr)) (hT : T ≠ 5) (hne : bs ≠ r) (hB : B ≤ r) : StF B bs g R0 pre x A m c b w' := by
  obtain ⟨R', k', h1, h2⟩ := h
  refine ⟨R', k', h1.typed hk hr hT hne hB, ?_⟩
  rcases h2 with ⟨rfl, f, h3, h4, ⟨g', h5⟩, h6⟩ | ⟨rfl, h3⟩
  · exact .inl ⟨rfl, f, h3, h4, ⟨g', h5.typed hk hr hT⟩, h6⟩
  · exact .inr ⟨rfl, h3⟩

theorem Spl.grow {B bs g k : Nat} {R : List UInt8} {w W : World} (h : Spl B bs g R k w) (hW : Below w.heap.size w W) : Spl B bs g R k W := by
  obtain ⟨lo, hi, env, A, c, hb, st⟩ := h
  refine ⟨lo, Nat.le_trans hi hW.size, env.below (hW.mono hi), A, c, hb.grow hW, ?_⟩
  rcases st with ⟨a, h1, h2⟩ | ⟨ln, h2⟩
  · exact .inl ⟨a, h1, h2.grow hW⟩
  · exact .inr ⟨ln, h2.grow hW⟩
theorem Spl.blk {B bs g k : Nat} {R : List UInt8} {w : World} (h : Spl B bs g R k w) : ∃ cs fr, w.heap[bs]? = some (.cells cs 49 fr) := by
  obtain ⟨_, _, _, _, _, _, st⟩ := h
  rcases st with ⟨_, _, h2⟩ | ⟨_, h2⟩ <;> exact ⟨_, _, h2.blk⟩
theorem StF.grow {B bs g : Nat} {R0 : List UInt8} {pre : List FV} {x : Int} {A : Option Addr} {m c : Nat} {b : Bool} {w W : World} (h : StF B bs g R0 pre x A m c b w) (hW : Below w.heap.size w W) : StF B bs g R0 pre x A m c b W := by
  obtain ⟨R', k', h1, h2⟩ := h
  refine ⟨R', k', h1.grow hW, ?_⟩
  rcases h2 with ⟨rfl, f, h3, h4, ⟨g', h5⟩, h6⟩ | ⟨rfl, h3⟩
  · exact .inl ⟨rfl, f, h3, h4, ⟨g', h5.grow hW⟩, h6⟩
  · exact .inr ⟨rfl, h3⟩
/-- A new block is not the row of the variable that a round writes. -/
theorem new_not_row {lb n0 bs : Nat} {W w1 w2 : World} (hx : BxF lb n0 W) (hbs : ∃ cs fr, W.heap[bs]? = some (.cells cs 49 fr)) (hgr : W.grownBy w2 (some bs)) (h1 : W.heap.size ≤ w1.heap.size) : ∀ v, Boxed w2 lb 27 v → v.ownBlock ≠ some w1.heap.size := by
  obtain ⟨v0, n1, xs, h3, h2⟩ := hx
  obtain ⟨cs, fr, hb⟩ := hbs
  intro v hv e
  have hne : lb ≠ bs := by
    rintro rfl
    have := (show W.heap[lb]? = _ from h3).symm.trans hb
    simp at this
  have h4 := hgr.block _ h3.lt (fun e => hne (Option.some.inj e))
  have := (h4.trans h3).symm.trans (show _ = _ from hv)
  simp at this
  subst this
  have := (h2.lt _ e).2
  omega

set_option maxRecDepth 100000 in
set_option maxHeartbeats 4000000 in
theorem frames_does (n : Nat) (hn : 1 ≤ n) (B bs g lb n0 N : Nat) (R0 : List UInt8) (hR0 : R0.length ≤ 1000000) (hsh : Short R0) (hN : ∀ fs R k, Runs R0 0 fs R k → fs.length ≤ N) (w0 : World) (h0 : Spl B bs g R0 0 w0) (hbs : bs < w0.heap.size) :
    SeqDoesB Fence.wide n Tryd.prog 24 #[.pointer (some ⟨bs, 0, none⟩)] (BxF lb n0) encF GdF (KpF B lb) (ItF bs) (SF B bs g R0) (fun _ => True) N w0 := by
  intro l J Jx W hW hJi hJB hY hJ0
  have hS0 := h0.grow hW
  have hbW : bs < W.heap.size := Nat.lt_of_lt_of_le hbs hW.size
  refine callsIn_of_wp Tryd.func24 rfl trivial ?_ rfl
  simp only [Tryd.ntmps24, List.size_toArray, List.length_cons, List.length_nil, Nat.reduceAdd, Nat.reduceSub, Array.replicate_succ, Array.replicate_zero, List.push_toArray, List.append_toArray, List.nil_append, List.cons_append, List.append_nil]
  have NX := Lib.hid (fun (R : List UInt8) (k : Nat) (fs : List Fr) (hr : Runs R0 0 fs R k) (w : World) (h : Spl B bs g R k w) (hb : bs < w.heap.size) => next_any B bs g R k (by have := hr.len.2.1; omega) w h hb (hsh fs R k hr))
  have HS0 := Lib.hid hS0
  clear hS0 h0
  gi_wp2_with fail
  refine ⟨trivial, ?_⟩
  refine (callsIn_wide.2 (NX.out R0 0 [] (.nil _ _) W HS0.out hbW)).mono ?_
  rintro e w1 hp
  obtain ⟨x, A, m, c, b, he, hq⟩ := hp.form
  clear hp
  subst he
  have hgr := NxRes.grown hq
  have HQ : Hid (StF B bs g R0 [] x A m c b w1) := Lib.hid (stF_next (.nil _ _) hq)
  clear hq
  have hb1 := hgr.size
  have hg1 := hgr.trans (grown_of_below (below_al w1 (.cells #[.int .i64 x, .slice A m c] 42)))
  have hJ1 : J [] (w1.alloc (.cells #[.int .i64 x, .slice A m c] 42)) := hJi _ _ _ hJ0 ⟨hg1, HS0.out.blk⟩
  have hF1 : (w1.alloc (.cells #[.int .i64 x, .slice A m c] 42)).heap[w1.heap.size]? = some (.cells #[.int .i64 x, .slice A m c] 42 (0, 0)) := heap_alloc_new _ _
  have hQ1 : StF B bs g R0 [] x A m c b (w1.alloc (.cells #[.int .i64 x, .slice A m c] 42)) := HQ.out.grow (below_al w1 _)
  have hv1 := new_not_row (hJB _ _ hJ0) HS0.out.blk hg1 hb1
  have HF1 := Lib.hid hF1
  have HJ1 := Lib.hid hJ1
  have HQ1 := Lib.hid hQ1
  have HV1 := Lib.hid hv1
  have hz1 : bs < (w1.alloc (.cells #[.int .i64 x, .slice A m c] 42)).heap.size := by simp; omega
  clear hgr HQ hJ0 hJ1 hF1 hQ1 hv1 HS0 hb1 hg1
  gi_wp2_with fail
  gi_loopw [4, 5] (fun p ok wr => ∃ (pre : List FV) (tb : Nat) (x : Int) (A : Option Addr) (m c : Nat) (b : Bool), p = .pointer (some ⟨tb, 0, none⟩) ∧ ok = .bool b ∧ bs < wr.heap.size ∧ Hid (wr.heap[tb]? = some (.cells #[.int .i64 x, .slice A m c] 42 (0, 0))) ∧ Hid (∀ v, Boxed wr lb 27 v → v.ownBlock ≠ some tb) ∧ Hid (J pre wr) ∧ Hid (StF B bs g R0 pre x A m c b wr))
    (fun _ ok wr => 2 * muF B bs g wr + okN ok)
  case atStart => exact ⟨[], _, x, A, m, c, b, rfl, rfl, hz1, HF1, HV1, HJ1, HQ1⟩
  case round =>
    obtain ⟨pre, tb, x, A, m, c, b, rfl, rfl, hz, hF, hV, hJ, hQ⟩ := hrel
    clear HF1 HV1 HJ1 HQ1 hz1
    cases b with
    | false =>
      gi_wp2
      refine ⟨(fun _ h => by cases h), ?_⟩
      gi_wp2
      go_end0
      refine ⟨⟨_, rfl⟩, .inl ⟨pre, ?_, hJ.out⟩⟩
      obtain ⟨R', k', h1, (⟨h2, _⟩ | ⟨_, h2, h3⟩)⟩ := hQ.out
      · cases h2
      · exact ⟨R', k', h2, h3, h1⟩
    | true =>
      obtain ⟨R', k', hSp, hcase⟩ := hQ.out
      obtain ⟨_, f, rfl, rfl, ⟨g', hbr⟩, hRun⟩ := hcase.resolve_right (fun h => by cases h.1)
      clear hcase
      have hpl : pre.length < N := by
        have := hN _ _ _ hRun
        simp at this
        omega
      have hYY := hY pre ⟨f, A, c⟩ wr hJ.out ⟨g', hbr⟩ hpl
      obtain ⟨fn, tmps, assign, body, hy, hR⟩ := hYY
      unfold encF at hy
      dsimp only at hy
      have k0 := cell_of_row _ _ 0 _ _ _ hF.out
      have k1 := cell_of_row _ _ 1 _ _ _ hF.out
      have HSp := Lib.hid hSp
      have HRun := Lib.hid hRun
      have HY := Lib.hid hY
      clear hY hSp hRun hbr hQ
      gi_wp2_with fail
      refine hR.mono ?_
      rintro e W3 (⟨rfl, hJ3, hk3⟩ | ⟨rfl, hJx3⟩)
      · have hx := hJB _ _ hJ.out
        have hT : tb ≠ lb := by
          rintro rfl
          obtain ⟨v0, _, _, h1, _⟩ := hx
          have := (show wr.heap[tb]? = _ from h1).symm.trans hF.out
          simp at this
        have HF3 := Lib.hid (hk3.2.2 _ _ _ _ hF.out hT hV.out)
        have HS3 := Lib.hid (HSp.out.kp hx hk3)
        have hz3 : bs < W3.heap.size := Nat.lt_of_lt_of_le hz hk3.1
        have HJ3 := Lib.hid hJ3
        have k0 := cell_of_row _ _ 0 _ _ _ HF3.out
        have k1 := cell_of_row _ _ 1 _ _ _ HF3.out
        have HMU := Lib.hid (muF_eq HSp.out)
        clear hR hy hx hT hk3 hJ3 hF hV hJ HSp
        gi_wp2_with fail
        refine ⟨trivial, ?_⟩
        refine (callsIn_wide.2 (NX.out R' k' _ HRun.out _ (HS3.out.grow (below_al W3 _)) (by simp; omega))).mono ?_
        rintro e w5 hp
        obtain ⟨x5, A5, m5, c5, b5, he, hq⟩ := hp.form
        clear hp
        subst he
        have hgr := NxRes.grown hq
        have HQ : Hid (StF B bs g R0 (pre ++ [⟨f, A, c⟩]) x5 A5 m5 c5 b5 w5) := Lib.hid (stF_next (by simpa using HRun.out) hq)
        have HB5 := Lib.hid ((hgr.block _ (by simp) (fun e => by injection e; omega)).trans (heap_alloc_new W3 (.cells #[.int .i64 (f.kind : Int), .slice A f.data.length c] 42)))
        have hMQ : (∃ f' R'' k'', b5 = true ∧ stepF R' k' = some (f', R'', k'') ∧ Spl B bs g R'' k'' w5) ∨ (b5 = false ∧ Spl B bs g R' k' w5) := by
          rcases hq with ⟨f', R'', k'', h1, _, h3, _, h5, _⟩ | ⟨_, _, _, h4, h5, _⟩
          · exact .inl ⟨f', R'', k'', h3, h1, h5⟩
          · exact .inr ⟨h4, h5⟩
        have HMQ := Lib.hid hMQ
        have HG5 := Lib.hid hgr
        have j0 := cell_of_row _ _ 0 _ _ _ HB5.out
        have j1 := cell_of_row _ _ 1 _ _ _ HB5.out
        have jf0 := Joins.unfrozen_of_block HB5.out 0
        have jf1 := Joins.unfrozen_of_block HB5.out 1
        clear hq hgr hMQ NX
        have G7 := Lib.hid (grown_set (grown_set (World.grownBy.refl w5 (some W3.heap.size)) 0 (.int .i64 x5)) 1 (.slice A5 m5 c5))
        have F7 := Lib.hid (Joins.block_setCell (i := 1) (Joins.block_setCell (i := 0) HB5.out (.int .i64 x5)) (.slice A5 m5 c5))
        have hBz : B ≤ W3.heap.size := HS3.out.hi
        gi_wp2_with fail
        have G8 : W3.grownBy _ (some bs) := ((grown_of_below (below_al W3 _)).trans HG5.out).andThen G7.out (fun j hj => .inl (by injection hj; omega))
        have S7 : (∃ f' R'' k'', b5 = true ∧ stepF R' k' = some (f', R'', k'') ∧ Spl B bs g R'' k'' _) ∨ (b5 = false ∧ Spl B bs g R' k' _) := HMQ.out.imp (fun ⟨f', R'', k'', a1, a2, a3⟩ => ⟨f', R'', k'', a1, a2, a3.typed G7.out HB5.out (by decide) (by omega) hBz⟩) (fun ⟨a1, a2⟩ => ⟨a1, a2.typed G7.out HB5.out (by decide) (by omega) hBz⟩)
        go_roundw
        case rel => exact ⟨pre ++ [FV.mk f A c], _, x5, A5, m5, c5, b5, rfl, rfl, Nat.lt_of_lt_of_le hz3 G8.size, F7, new_not_row (hJB _ _ HJ3.out) HS3.out.blk G8 (Nat.le_refl _), hJi _ _ _ HJ3.out ⟨G8, HS3.out.blk⟩, HQ.out.typed G7.out HB5.out (by decide) (by omega) hBz⟩
        case measure =>
          rw [HMU.out]
          rcases S7 with ⟨f', R'', k'', rfl, h1, h2⟩ | ⟨rfl, h2⟩
          · rw [muF_eq h2]
            have := stepF_lt h1
            show 2 * (R''.length - k'') + 1 < 2 * (R'.length - k') + 1
            omega
          · rw [muF_eq h2]
            show 2 * (R'.length - k') + 0 < 2 * (R'.length - k') + 1
            omega
      · gi_wp2_with fail
        go_end0
        exact ⟨⟨_, rfl⟩, .inr ⟨_, trivial, hJx3⟩⟩
end Go.Proofs.YtldlghfjinpnkaaDoor
