import Derived.Test.YtpgfnlhfciacoaaGreatDoorPGh
import Derived.OwnWalkIn
import Derived.TacticsInMore
import Derived.LoopIn
import Derived.RangeFuncFrom
import Derived.RangeFuncKeeps
import Derived.Stop.RegionWithIn
import Derived.Test.YtpgfnlhfciacoaaGreatDoorPGv
import Derived.Handed
set_option maxRecDepth 100000
set_option maxHeartbeats 4000000
open Go.Lib renaming hid → Hi
namespace Go.Proofs.YtpgfnlhfciacoaaGreatDoor
open Go.RowKit
section
attribute [local go_sem] Oper.semAt_some
def StF (B bs g : Nat) (R0 : List UInt8) (pre : List FV) (x : Int) (A : Option Addr) (m c : Nat) (b : Bool) (wr : World) : Prop :=
 ∃ R' k', Spl B bs g R' k' wr ∧ ((b = true ∧ ∃ f : Fr, x = (f.kind : Int) ∧ m = f.data.length ∧ (∃ g', BRow g' wr A c f.data) ∧ Runs R0 0 (pre.map FV.f ++ [f]) R' k') ∨ (b = false ∧ Runs R0 0 (pre.map FV.f) R' k' ∧ Done R' k'))
def SF (B bs g : Nat) (R0 : List UInt8) (xs : List FV) (W : World) : Prop := ∃ R' k', Runs R0 0 (xs.map FV.f) R' k' ∧ Done R' k' ∧ Spl B bs g R' k' W
theorem stF_next {B bs g k : Nat} {R0 R : List UInt8} {pre : List FV} {w w' : World} {x : Int} {A : Option Addr} {m c : Nat} {b : Bool} (hr : Runs R0 0 (pre.map FV.f) R k) (h : NxRes B bs g R k w x (.slice A m c) b w') : StF B bs g R0 pre x A m c b w' := by
 rcases h with ⟨f, R', k', h1, h2, h3, ⟨A', c', g', h4, h5, _⟩, h6, _⟩ | ⟨h1, h2, h3, h4, h5, _⟩
 · injection h4 with e1 e2 e3
   subst e1 e2 e3
   exact ⟨R', k', h6, .inl ⟨h3, f, h2, rfl, ⟨g', h5⟩, hr.snoc h1⟩⟩
 · exact ⟨R, k, h5, .inr ⟨h4, hr, h1⟩⟩
theorem StF.typed {B bs g r : Nat} {R0 : List UInt8} {pre : List FV} {x : Int} {A : Option Addr} {m c : Nat} {b : Bool} {w w' : World} {cs : Array Value} {T : TypeId} {fr : Nat × Nat} (h : StF B bs g R0 pre x A m c b w) (hk : w.grownBy w' (some r)) (hr : w.heap[r]? = some (.cells cs T fr)) (hT : T ≠ 5) (hne : bs ≠ r) (hB : B ≤ r) : StF B bs g R0 pre x A m c b w' := by
 obtain ⟨R', k', h1, h2⟩ := h
 refine ⟨R', k', h1.typed hk hr hT hne hB, ?_⟩
 rcases h2 with ⟨rfl, f, h3, h4, ⟨g', h5⟩, h6⟩ | ⟨rfl, h3⟩
 · exact .inl ⟨rfl, f, h3, h4, ⟨g', h5.typed hk hr hT⟩, h6⟩
 · exact .inr ⟨rfl, h3⟩
theorem Spl.grow {B bs g k : Nat} {R : List UInt8} {w W : World} (h : Spl B bs g R k w) (hW : Below w.heap.size w W) : Spl B bs g R k W := by
 obtain ⟨lo, hi, env, A, c, hb, st⟩ := h
 refine ⟨lo, Nat.le_trans hi hW.size, env.below (hW.mono hi), A, c, hb.grow hW, ?_⟩
 rcases st with ⟨a, h1, h2⟩ | ⟨ln, h2⟩
 · exact .inl ⟨a, h1, h2.grow hW⟩
 · exact .inr ⟨ln, h2.grow hW⟩
theorem Spl.blk {B bs g k : Nat} {R : List UInt8} {w : World} (h : Spl B bs g R k w) : ∃ cs fr, w.heap[bs]? = some (.cells cs 132 fr) := by
 obtain ⟨_, _, _, _, _, _, st⟩ := h
 rcases st with ⟨_, _, h2⟩ | ⟨_, h2⟩ <;> exact ⟨_, _, h2.blk⟩
theorem StF.grow {B bs g : Nat} {R0 : List UInt8} {pre : List FV} {x : Int} {A : Option Addr} {m c : Nat} {b : Bool} {w W : World} (h : StF B bs g R0 pre x A m c b w) (hW : Below w.heap.size w W) : StF B bs g R0 pre x A m c b W := by
 obtain ⟨R', k', h1, h2⟩ := h
 refine ⟨R', k', h1.grow hW, ?_⟩
 rcases h2 with ⟨rfl, f, h3, h4, ⟨g', h5⟩, h6⟩ | ⟨rfl, h3⟩
 · exact .inl ⟨rfl, f, h3, h4, ⟨g', h5.grow hW⟩, h6⟩
 · exact .inr ⟨rfl, h3⟩
theorem new_not_row {lb n0 bs : Nat} {W w1 w2 : World} (hx : BxF lb n0 W) (hbs : ∃ cs fr, W.heap[bs]? = some (.cells cs 132 fr)) (hgr : W.grownBy w2 (some bs)) (h1 : W.heap.size ≤ w1.heap.size) : ∀ v, Boxed w2 lb 51 v → v.ownBlock ≠ some w1.heap.size := by
 obtain ⟨v0, n1, xs, h3, h2⟩ := hx
 obtain ⟨cs, fr, hb⟩ := hbs
 intro v hv e
 have hne : lb ≠ bs := by
  rintro rfl
  have := (show W.heap[lb]? = _ from h3).symm.trans hb
  simp at this
 have h4 := hgr.block _ h3.lt (fun e => hne (Option.some.inj e))
 have := (h4.trans h3).symm.trans (show _ = _ from hv)
 simp at this
 subst this
 have := (h2.lt _ e).2
 omega
theorem frames_does (n : Nat) (hn : 1 ≤ n) (B bs g lb n0 N : Nat) (R0 : List UInt8) (hR0 : R0.length ≤ 1000000) (hsh : Short R0) (hN : ∀ fs R k, Runs R0 0 fs R k → fs.length ≤ N) (w0 : World) (h0 : Spl B bs g R0 0 w0) (hbs : bs < w0.heap.size) :
 SeqDoesB Fence.wide n Tryz.prog 60 #[.pointer (some ⟨bs, 0, none⟩)] (BxF lb n0) encF GdF (KpF B lb) (ItF bs) (SF B bs g R0) (fun _ => True) N w0 := by
 intro l J Jx W hW hJi hJB hY hJ0
 have hS0 := h0.grow hW
 have hbW : bs < W.heap.size := Nat.lt_of_lt_of_le hbs hW.size
 refine callsIn_of_wp Tryz.func60 rfl trivial ?_ rfl
 simp only [Tryz.ntmps60, List.size_toArray, List.length_cons, List.length_nil, Nat.reduceAdd, Nat.reduceSub, Array.replicate_succ, Array.replicate_zero, List.push_toArray, List.append_toArray, List.nil_append, List.cons_append, List.append_nil]
 have NX := Hi (fun (R : List UInt8) (k : Nat) (fs : List Fr) (hr : Runs R0 0 fs R k) (w : World) (h : Spl B bs g R k w) (hb : bs < w.heap.size) => next_any B bs g R k (by have := hr.len.2.1; omega) w h hb (hsh fs R k hr))
 have HS0 := Hi hS0
 clear hS0 h0
 gi_wp2_with fail
 refine ⟨trivial, ?_⟩
 refine (callsIn_wide.2 (NX.out R0 0 [] (.nil _ _) W HS0.out hbW)).mono ?_
 rintro e w1 hp
 obtain ⟨x, A, m, c, b, he, hq⟩ := hp.form
 clear hp
 subst he
 have hgr := NxRes.grown hq
 have HQ : Hid (StF B bs g R0 [] x A m c b w1) := Hi (stF_next (.nil _ _) hq)
 clear hq
 have hb1 := hgr.size
 have hg1 := hgr.trans (YE (YB w1 (.cells #[.int .i64 x, .slice A m c] 62)))
 have hJ1 : J [] (w1.alloc (.cells #[.int .i64 x, .slice A m c] 62)) := hJi _ _ _ hJ0 ⟨hg1, HS0.out.blk⟩
 have hF1 : (w1.alloc (.cells #[.int .i64 x, .slice A m c] 62)).heap[w1.heap.size]? = some (.cells #[.int .i64 x, .slice A m c] 62 (0, 0)) := YD _ _
 have hQ1 : StF B bs g R0 [] x A m c b (w1.alloc (.cells #[.int .i64 x, .slice A m c] 62)) := HQ.out.grow (YB w1 _)
 have hv1 := new_not_row (hJB _ _ hJ0) HS0.out.blk hg1 hb1
 have HF1 := Hi hF1
 have HJ1 := Hi hJ1
 have HQ1 := Hi hQ1
 have HV1 := Hi hv1
 have hz1 : bs < (w1.alloc (.cells #[.int .i64 x, .slice A m c] 62)).heap.size := by simp; omega
 clear hgr HQ hJ0 hJ1 hF1 hQ1 hv1 HS0 hb1 hg1
 gi_wp2_with fail
 gi_loopw [4, 5] (fun p ok wr => ∃ (pre : List FV) (tb : Nat) (x : Int) (A : Option Addr) (m c : Nat) (b : Bool), p = .pointer (some ⟨tb, 0, none⟩) ∧ ok = .bool b ∧ bs < wr.heap.size ∧ Hid (wr.heap[tb]? = some (.cells #[.int .i64 x, .slice A m c] 62 (0, 0))) ∧ Hid (∀ v, Boxed wr lb 51 v → v.ownBlock ≠ some tb) ∧ Hid (J pre wr) ∧ Hid (StF B bs g R0 pre x A m c b wr))
  (fun _ ok wr => 2 * muF B bs g wr + okN ok)
 case atStart => exact ⟨[], _, x, A, m, c, b, rfl, rfl, hz1, HF1, HV1, HJ1, HQ1⟩
 case round =>
  obtain ⟨pre, tb, x, A, m, c, b, rfl, rfl, hz, hF, hV, hJ, hQ⟩ := hrel
  clear HF1 HV1 HJ1 HQ1 hz1
  cases b with
  | false =>
    gi_wp2
    refine ⟨(fun _ h => by cases h), ?_⟩
    gi_wp2
    go_end0
    refine ⟨⟨_, rfl⟩, .inl ⟨pre, ?_, hJ.out⟩⟩
    obtain ⟨R', k', h1, (⟨h2, _⟩ | ⟨_, h2, h3⟩)⟩ := hQ.out
    · cases h2
    · exact ⟨R', k', h2, h3, h1⟩
  | true =>
    obtain ⟨R', k', hSp, hcase⟩ := hQ.out
    obtain ⟨_, f, rfl, rfl, ⟨g', hbr⟩, hRun⟩ := hcase.resolve_right (fun h => by cases h.1)
    clear hcase
    have hpl : pre.length < N := by
     have := hN _ _ _ hRun
     simp at this
     omega
    have hYY := hY pre ⟨f, A, c⟩ wr hJ.out ⟨g', hbr⟩ hpl
    obtain ⟨fn, tmps, assign, body, hy, hR⟩ := hYY
    unfold encF at hy
    dsimp only at hy
    have k0 := cell_of_row _ _ 0 _ _ _ hF.out
    have k1 := cell_of_row _ _ 1 _ _ _ hF.out
    have HSp := Hi hSp
    have HRun := Hi hRun
    have HY := Hi hY
    clear hY hSp hRun hbr hQ
    gi_wp2_with fail
    refine hR.mono ?_
    rintro e W3 (⟨rfl, hJ3, hk3⟩ | ⟨rfl, hJx3⟩)
    · have hx := hJB _ _ hJ.out
      have hT : tb ≠ lb := by
       rintro rfl
       obtain ⟨v0, _, _, h1, _⟩ := hx
       have := (show wr.heap[tb]? = _ from h1).symm.trans hF.out
       simp at this
      have HF3 := Hi (hk3.2.2 _ _ _ _ hF.out hT hV.out)
      have HS3 := Hi (HSp.out.kp hx hk3)
      have hz3 : bs < W3.heap.size := Nat.lt_of_lt_of_le hz hk3.1
      have HJ3 := Hi hJ3
      have k0 := cell_of_row _ _ 0 _ _ _ HF3.out
      have k1 := cell_of_row _ _ 1 _ _ _ HF3.out
      have HMU := Hi (muF_eq HSp.out)
      clear hR hy hx hT hk3 hJ3 hF hV hJ HSp
      gi_wp2_with fail
      refine ⟨trivial, ?_⟩
      refine (callsIn_wide.2 (NX.out R' k' _ HRun.out _ (HS3.out.grow (YB W3 _)) (by simp; omega))).mono ?_
      rintro e w5 hp
      obtain ⟨x5, A5, m5, c5, b5, he, hq⟩ := hp.form
      clear hp
      subst he
      have hgr := NxRes.grown hq
      have HQ : Hid (StF B bs g R0 (pre ++ [⟨f, A, c⟩]) x5 A5 m5 c5 b5 w5) := Hi (stF_next (by simpa using HRun.out) hq)
      have HB5 := Hi ((hgr.block _ (by simp) (fun e => by injection e; omega)).trans (YD W3 (.cells #[.int .i64 (f.kind : Int), .slice A f.data.length c] 62)))
      have hMQ : (∃ f' R'' k'', b5 = true ∧ stepF R' k' = some (f', R'', k'') ∧ Spl B bs g R'' k'' w5) ∨ (b5 = false ∧ Spl B bs g R' k' w5) := by
       rcases hq with ⟨f', R'', k'', h1, _, h3, _, h5, _⟩ | ⟨_, _, _, h4, h5, _⟩
       · exact .inl ⟨f', R'', k'', h3, h1, h5⟩
       · exact .inr ⟨h4, h5⟩
      have HMQ := Hi hMQ
      have HG5 := Hi hgr
      have j0 := cell_of_row _ _ 0 _ _ _ HB5.out
      have j1 := cell_of_row _ _ 1 _ _ _ HB5.out
      have jf0 := Joins.unfrozen_of_block HB5.out 0
      have jf1 := Joins.unfrozen_of_block HB5.out 1
      clear hq hgr hMQ NX
      have G7 := Hi (YH (YH (World.grownBy.refl w5 (some W3.heap.size)) 0 (.int .i64 x5)) 1 (.slice A5 m5 c5))
      have F7 := Hi (Joins.block_setCell (i := 1) (Joins.block_setCell (i := 0) HB5.out (.int .i64 x5)) (.slice A5 m5 c5))
      have hBz : B ≤ W3.heap.size := HS3.out.hi
      gi_wp2_with fail
      have G8 : W3.grownBy _ (some bs) := ((YE (YB W3 _)).trans HG5.out).andThen G7.out (fun j hj => .inl (by injection hj; omega))
      have S7 : (∃ f' R'' k'', b5 = true ∧ stepF R' k' = some (f', R'', k'') ∧ Spl B bs g R'' k'' _) ∨ (b5 = false ∧ Spl B bs g R' k' _) := HMQ.out.imp (fun ⟨f', R'', k'', a1, a2, a3⟩ => ⟨f', R'', k'', a1, a2, a3.typed G7.out HB5.out (by decide) (by omega) hBz⟩) (fun ⟨a1, a2⟩ => ⟨a1, a2.typed G7.out HB5.out (by decide) (by omega) hBz⟩)
      go_roundw
      case rel => exact ⟨pre ++ [FV.mk f A c], _, x5, A5, m5, c5, b5, rfl, rfl, Nat.lt_of_lt_of_le hz3 G8.size, F7, new_not_row (hJB _ _ HJ3.out) HS3.out.blk G8 (Nat.le_refl _), hJi _ _ _ HJ3.out ⟨G8, HS3.out.blk⟩, HQ.out.typed G7.out HB5.out (by decide) (by omega) hBz⟩
      case measure =>
       rw [HMU.out]
       rcases S7 with ⟨f', R'', k'', rfl, h1, h2⟩ | ⟨rfl, h2⟩
       · rw [muF_eq h2]
         have := stepF_lt h1
         show 2 * (R''.length - k'') + 1 < 2 * (R'.length - k') + 1
         omega
       · rw [muF_eq h2]
         show 2 * (R'.length - k') + 0 < 2 * (R'.length - k') + 1
         omega
    · gi_wp2_with fail
      go_end0
      exact ⟨⟨_, rfl⟩, .inr ⟨_, trivial, hJx3⟩⟩
end
section
attribute [local go_sem] Oper.semAt_some
theorem infoF4 : (Tryz.prog.info? 62).map (fun i => (i.zero, i.size, i.bytes)) = some (some (.agg #[.int .i64 0, .slice none 0 0]), 2, 32) := by kernel_rfl
theorem EnvB.up {B B' : Nat} {w : World} (h : EnvB B w) (hB : B ≤ B') : EnvB B' w := ⟨h.env, h.mx, by have := h.lt; omega, by have := h.lt; omega, by have := h.lt; omega, by have := h.lt; omega⟩
def FV.p (x : FV) : Int × Value := ((x.f.kind : Int), .slice x.A x.f.data.length x.c)
def IS (w : World) (lb : Nat) (pre : List FV) (W : World) : Prop :=
 (∃ v, Boxed W lb 51 v ∧ W.ownsRow w.heap.size 62 2 v pre.length (YF enc2 (pre.map FV.p))) ∧ QK (fun _ => True) W (pre.map FV.p) (pre.map FV.f) ∧ Below w.heap.size w W
theorem boxed_non {W W' : World} {b : Nat} {t : TypeId} {v : Value} {row : Option Nat} (h : Boxed W b t v) (hg : W.grownBy W' row) (hr : ∀ r, row = some r → ∃ o : Obj, W.heap[r]? = some o ∧ o.isCells = false) : Boxed W' b t v := by
 refine h.kept hg (fun e => ?_)
 obtain ⟨o, ho, hc⟩ := hr b e.symm
 rw [show W.heap[b]? = _ from h] at ho
 cases ho
 simp [Obj.isCells] at hc
theorem own_non {W W' : World} {base size n : Nat} {t : TypeId} {v : Value} {xs : List Value} {row : Option Nat} (h : W.ownsRow base t size v n xs) (hg : W.grownBy W' row) (hr : ∀ r, row = some r → ∃ o : Obj, W.heap[r]? = some o ∧ o.isCells = false) : W'.ownsRow base t size v n xs := by
 refine h.kept hg ?_
 rcases h.2 with ⟨rfl, _⟩ | ⟨g, cap, cur, rfl, _, hgb, _⟩
 · exact .inl rfl
 · refine .inr fun e' => ?_
   obtain ⟨o, ho, hc⟩ := hr g (by simpa [Value.ownBlock] using e'.symm)
   rw [hgb] at ho
   cases ho
   simp [Obj.isCells] at hc
theorem frs_non {P : Nat → Prop} {W W' : World} {vs : List (Int × Value)} {fs : List Fr} {row : Option Nat} (h : QK P W vs fs) (hg : W.grownBy W' row) (hr : ∀ r, row = some r → ∃ o : Obj, W.heap[r]? = some o ∧ o.isCells = false) : QK P W' vs fs :=
 h.keeps ⟨hg.size, fun i cs fr hi => (hg.block i (Array.getElem?_eq_some_iff.1 hi).1 (fun e => by
  obtain ⟨o, ho, hc⟩ := hr i e.symm
  rw [hi] at ho
  cases ho
  simp [Obj.isCells] at hc)).trans hi⟩
theorem iS_own (w : World) (lb B : Nat) (hB : w.heap.size ≤ B) : OwnFrom B (IS w lb) := by
 rintro s X Y row ⟨⟨v, h1, h2⟩, h3, h4⟩ hg hr
 have hr2 := fun r e => (hr r e).2
 exact ⟨⟨v, boxed_non h1 hg hr2, own_non h2 hg hr2⟩, frs_non h3 hg hr2, h4.grown hg h4.size (fun k hk => by have := (hr k hk).1; omega)⟩
theorem iS_it {w : World} {lb bs : Nat} (hbs : w.heap.size ≤ bs) (s : List FV) (A B : World) (h : IS w lb s A) (hw : ItF bs A B) : IS w lb s B := by
 obtain ⟨⟨v, h1, h2⟩, h3, h4⟩ := h
 obtain ⟨hg, cs, fr, hb⟩ := hw
 have hx := bx_ne ⟨v, _, _, h1, h2⟩ hb (by decide) (by decide)
 exact ⟨⟨v, h1.kept hg (fun e => hx.1 (Option.some.inj e).symm), h2.kept hg (.inr (hx.2 v h1))⟩, h3.keeps (keeps_grown hg hb (by decide)), h4.grown hg h4.size (fun k hk => by have := Option.some.inj hk; omega)⟩
theorem cells_pair {W : World} {b : Nat} (hb : b = W.heap.size) (x y : Value) (T : TypeId) : ∀ (j : Nat) (u : Value), [x, y][j]? = some u → (W.alloc (.cells #[x, y] T)).cell? ((⟨b, 0, none⟩ : Addr).add j) = some u := by
 intro j u hu
 subst hb
 rw [Addr.add_lit, Nat.zero_add, Joins.cell_alloc_mark_at W _ _ _ _ _ rfl]
 match j, hu with
 | 0, hu => simpa using hu
 | 1, hu => simpa using hu
theorem kpF_a {B0 lb : Nat} {A B : World} {x y : Value} (hB : B0 ≤ A.heap.size) (h : KpF B0 lb (A.alloc (.cells #[x, y] 62)) B) : KpF B0 lb A B := by
 obtain ⟨h1, h2, h3⟩ := h
 have hb := YB A (.cells #[x, y] 62)
 refine ⟨Nat.le_trans hb.size h1, fun k hk => ?_, fun i cs T fr hi hne hv => ?_⟩
 · rw [h2 k hk]
   exact hb.block k (by omega)
 · refine h3 i cs T fr ((hb.block i (Array.getElem?_eq_some_iff.1 hi).1).trans hi) hne (fun v hbx => hv v ?_)
   by_cases hlt : lb < A.heap.size
   · exact (hb.block lb hlt).symm.trans hbx
   · have hl2 := hbx.lt
     simp at hl2
     have : lb = A.heap.size := by omega
     subst this
     have := (show _ = _ from hbx).symm.trans (YD A (.cells #[x, y] 62))
     simp at this
theorem split_any (D c n : Nat) (A : Option Addr) (l : List UInt8) (hn : l.length = n) (hl : n ≤ 1000000) (hsh : Short l) (w : World) (henv : EnvB w.heap.size w) (hA : ByAt D w A c l) :
 Calls Tryz.prog 30 #[.slice A n c] w (RsPost 62 l w) := by
 obtain ⟨i0, hi, hz0, hz1, hz2⟩ := info_parts infoF4
 have NW := Hi (new_any w.heap.size w (Nat.le_refl _) henv)
 have FD := Hi (fun (w1 : World) (h : Spl w.heap.size w.heap.size (w.heap.size + 1) [] 0 w1) (hb : Below w.heap.size w w1) (hz : w.heap.size < w1.heap.size) => feed_any w.heap.size w.heap.size (w.heap.size + 1) [] 0 l n hn (by simpa using hl) w1 h hz w1.heap.size c A (hA.here.below hb |>.mono hb.size))
 have HN := Hi hn
 clear henv hA hn
 refine (callsIn_wide (n := 3)).1 ?_
 refine callsIn_of_wp_marks Tryz.func30 rfl trivial ?_ rfl
 simp only [Tryz.ntmps30, List.size_toArray, List.length_cons, List.length_nil, Nat.reduceAdd, Nat.reduceSub, Array.replicate_succ, Array.replicate_zero, List.push_toArray, List.append_toArray, List.nil_append, List.cons_append]
 gi_wp2_with fail
 refine ⟨trivial, ?_⟩
 refine (callsIn_wide.2 NW.out).mono ?_
 rintro e w1 ⟨rfl, hs1, hb1, hz1'⟩
 have FD := Hi (FD.out w1 hs1 hb1 hz1')
 have HB1 := Hi hb1
 clear hs1 hb1 NW
 gi_wp2_with fail
 refine ⟨trivial, ?_⟩
 refine (callsIn_wide.2 FD.out).mono ?_
 rintro e w2 ⟨rfl, g', w1', hg', hs2, hg1, hg2⟩
 have hb2 : Below w.heap.size w w2 := (HB1.out.grown hg1 HB1.out.size (fun k hk => by have := Option.some.inj hk; omega)).grown hg2 (Nat.le_trans HB1.out.size hg1.size) (fun k hk => by have := Option.some.inj hk; omega)
 have hz2' : w.heap.size < w2.heap.size := Nat.lt_of_lt_of_le hz1' (Nat.le_trans hg1.size hg2.size)
 rw [List.nil_append] at hs2
 clear FD HB1 hg' hg1 hg2
 gi_wp2_with fail
 have hI0 : IS w w2.heap.size [] (w2.alloc (.cells #[.slice none 0 0] 51)) := ⟨⟨_, Boxed.new w2 _ _, World.ownsRow_nil _ _ _ _⟩, .nil, hb2.trans ((YB w2 _).mono hb2.size)⟩
 have hS0 := hs2.grow (YB w2 (.cells #[.slice none 0 0] 51))
 have hzz : w2.heap.size < (w2.alloc (.cells #[.slice none 0 0] 51)).heap.size := by simp
 have HZ := Hi hzz
 clear hs2 hb2
 generalize hlb : w2.heap.size = lb at *
 generalize w2.alloc (.cells #[.slice none 0 0] 51) = W0 at *
 refine wpIn_rangeFunc_bound rfl (by omega) (gf := 60) (ra := #[.pointer (some ⟨w.heap.size, 0, none⟩)]) (Bx := BxF lb w.heap.size) rfl trivial (enters_of Tryz.func60 (by kernel_rfl) rfl)
  (frames_does 2 (by omega) w.heap.size w.heap.size g' lb w.heap.size n l (by rw [HN.out]; exact hl) hsh (fun fs R k hr => by have := hr.len.1; rw [HN.out] at this; omega) W0 hS0 (by omega))
  (fun x W l o o' h1 h2 ⟨g, h⟩ => ⟨g, h.put h1 h2⟩)
  (fun xs W l o o' h0 h1 h2 ⟨R', k', h3, h4, h5⟩ => ⟨R', k', h3, h4, h5.put (by omega) h1 h2⟩)
  (fun A B l o o' h0 h1 h2 h3 h4 => kpF_l (by omega) h1 h2 h3 h4)
  (fun A B l o o' h0 h1 h2 h3 => kpF_r (by omega) h1 h2 h3)
  (fun X Y i o hw ho hc => by
   obtain ⟨hg, cs, fr, hb⟩ := hw
   refine (hg.block i (Array.getElem?_eq_some_iff.1 ho).1 (fun e => ?_)).trans ho
   obtain rfl := Option.some.inj e
   exact cells_ne ho hc hb rfl)
  (Below.refl _ _) (fun _ => rfl)
  (IS w lb) (fun _ _ _ => False) (iS_own w lb _ (by omega)) (fun c s X Y row h => h.elim)
  (iS_it (Nat.le_refl _)) (fun s A h => by obtain ⟨⟨v, h1, h2⟩, _⟩ := h; exact ⟨v, _, _, h1, h2⟩)
  hI0 (fun x W => { tmps := #[.slice A n c, undef, .slice none 0 0, .int .i64 0, .pointer (some ⟨w.heap.size, 0, none⟩), .pointer (some ⟨lb, 0, none⟩), .pointer (some ⟨W.heap.size, 0, none⟩), .pointer (some ⟨w.heap.size, 0, none⟩), .pointer (some ⟨w.heap.size, 0, none⟩), .slice A n c, .tuple #[], .pointer (some ⟨w.heap.size, 0, none⟩), .func (.func 60) #[.pointer (some ⟨w.heap.size, 0, none⟩)] #[], .agg #[.int .i64 (x.f.kind : Int), .slice x.A x.f.data.length x.c], undef, undef, undef, undef, undef, undef, undef], defers := [] })
  (fun x => .cells #[.int .i64 (x.f.kind : Int), .slice x.A x.f.data.length x.c] 62)
  (fun x W o ⟨g, h⟩ => ⟨g, h.grow (YB W o)⟩) (fun x A B h0 h => kpF_a (by omega) h) ?assign ?body ?done ?stop
 case assign =>
  intro l x W K hK
  unfold encF
  gi_wp2
  exact hK
 case body =>
  rintro r pre x Wp W ⟨⟨v, h1, h2⟩, h3, h4⟩ hgd hWp hfb hlt
  obtain ⟨Av, cv, hv⟩ := YV h2
  subst hv
  have hb1 := h1.cell
  have hf1 := h1.frozen
  have k0 := cell_of_row _ _ 0 _ _ _ hfb
  have k1 := cell_of_row _ _ 1 _ _ _ hfb
  have hpl : pre.length ≤ 1000000 := by omega
  have hlb2 := h1.lt
  have HGD := Hi hgd
  have H3 := Hi h3
  have H4 := Hi h4
  have hs4 := h4.size
  clear hgd h3 h4 hfb
  gi_wp2_with (gi_at_builtin; refine wpListIn_append_own _ rfl _ _ 51 rfl w.heap.size 62 i0 _ 2 32 Tryz.underlying51 hi hz0 hz1 hz2 rfl (by decide) _ _ _ rfl (h2.alloc _) ⟨W.heap.size, 0, none⟩ 1 1 [.int .i64 (x.f.kind : Int), .slice x.A x.f.data.length x.c] rfl rfl (cells_pair rfl _ _ _) (by intro u hu; simp at hu; rcases hu with rfl | rfl <;> rfl) (by unfold maxLen; omega) (by omega) (by simp; omega) ?_; intro v' w8 hown' hgrow _; obtain ⟨g2, cap', rfl⟩ := ownsRow_succ hown'; obtain ⟨hv1, hv2, hr2, hk2, hb2⟩ := h1.appended (by decide) h2 hs4 (by omega) hown' hgrow; have hc1 : w8.cell? ⟨lb, 0, none⟩ = some (.slice Av pre.length cv) := hv1.cell; have hf1 : w8.frozen? ⟨lb, 0, none⟩ = false := hv1.frozen)
  have hKT : YR 5 W (w8.setCell ⟨lb, 0, none⟩ (.slice (some ⟨g2, 0, none⟩) (pre.length + 1) cap')) := (YR.app h2 (by decide) hgrow).set_ hv1 (by decide) _
  obtain ⟨gx, hgx⟩ := HGD.out
  refine ⟨hk2.from _, ⟨hb2.size, hb2.block, fun i cs T fr hi2 hne hv => ?_⟩, ⟨_, hv2, ?_⟩, ?_, H4.out.trans hb2⟩
  · rw [Below.heap_setCell _ _ _ i hne, hgrow.block i (by have := (Array.getElem?_eq_some_iff.1 hi2).1; simp; omega) (fun e => hv _ h1 e.symm)]
    exact ((YB W _).block i (Array.getElem?_eq_some_iff.1 hi2).1).trans hi2
  · rw [List.map_append, ZR, List.length_append]
    exact hr2
  · rw [List.map_append, List.map_append]
    exact (H3.out.keeps hKT).append (.one (show FrD (fun _ => True) _ (.slice x.A x.f.data.length x.c) x.f.data from ⟨x.A, x.c, gx, rfl, hgx.keeps hKT, trivial⟩))
 case done =>
  rintro E ys W hD ⟨R', k', hrun, hdn, hsp⟩ ⟨⟨v, h1, h2⟩, h3, h4⟩ hK
  obtain ⟨Av, cv, hv⟩ := YV h2
  subst hv
  have c1 := h1.cell
  have hRl : R'.length ≤ 1000000 := by have := hrun.len.2.1; rw [HN.out] at this; omega
  have LF := Hi (fun (X : World) (h : Spl w.heap.size w.heap.size g' R' k' X) => left_any w.heap.size w.heap.size g' k' R' hRl X h)
  have HSP := Hi hsp
  have hlb2 := h1.lt
  have HR := Hi hrun
  have HDn := Hi hdn
  have H3 := Hi h3
  have H4 := Hi h4
  have HK := Hi hK
  have H1 := Hi h1
  have H2 := Hi h2
  have hd : 1 ≤ 3 := by omega
  have hmx : Tryz.prog.follows .mixedOrders = true := by kernel_rfl
  clear hrun hdn h3 h4 hsp hK h1 h2
  have c5 := H1.out.cell
  have LFd := Hi (LF.out W.drew (HSP.out.grow (ZJ (Below.refl _ _))))
  gi_wp2
  refine wpIn_mono (Q := NoPanic _) ?_ NoPanic.imp
  gi_region_with (refine ⟨trivial, ?_⟩; gi_at_call 61; refine (callsIn_wide.2 LFd.out).mono ?_; rintro e w3 ⟨rfl, hb3⟩; have hb4 : Below W.heap.size W w3 := (ZJ (Below.refl W.heap.size W)).trans hb3; have c3 : w3.cell? ⟨lb, 0, none⟩ = some (.slice Av ys.length cv) := (hb4.cell (p := ⟨lb, 0, none⟩) hlb2).trans c5)
  all_goals
   have hK2 := (hb4.block E (Array.getElem?_eq_some_iff.1 HK.out).1).trans HK.out
   have hEz : w.heap.size ≤ E := by omega
   refine NoPanic.normal ?_
   gi_wp2
   refine ⟨by simp, .inl ⟨_, _, rfl, run_takeDeferred hK2, ?_⟩⟩
   refine ⟨.tuple #[.slice Av ys.length cv, .int .i64 ((R'.length : Nat) : Int)], ?_, ?_⟩
   · simp [results, Tryz.f30, go_sem]
   · refine ⟨_, ys.map FV.p, ys.map FV.f, R', k', rfl, ?_, ?_, ?_, HR.out, HDn.out⟩
     · rw [List.length_map]
       exact ownsRow_putObj (ZP H2.out hb4) _ hK2 rfl
     · exact frs_non (H3.out.keeps (keeps_below hb4)) (grownBy_putObj' _ E _) (fun r e => by cases e; exact ⟨_, hK2, rfl⟩)
     · exact (H4.out.trans (hb4.mono H4.out.size)).trans (belowK_b (w := w) (Nat.le_refl _) _ E _ _ hEz hK2 rfl rfl)
 case stop => rintro D c pre W hD _ h; exact h.elim
end
section
open Go.ChangeShapes Go.WideShapes Go.ChangeAt Go.WideMaps Go.WideElems
theorem returns_listed_shaped {H : Type} {enc : TypeId × Value → H} {a : Assume} {C : Checked} {os : Os} {f : FuncId} {fn : Func} {s : ChangeSpec} {conds : List PathCond} {apart fresh handsOn again : Bool} {X : World → Array Value → Prop}
 (hX : ∀ (w w' : World) (args : Array Value), w.heap = w'.heap → X w args → X w' args)
 (own : ownKnob C.prog.godebug = none) (started : os.Started) (noInit : C.prog.inits.idxOf? f = none) (hfn : C.prog.funcs[f]? = some fn)
 (witness : ∃ (w : World) (tape : Tape) (i : Input), w.os = os ∧ (w.forCall tape i).Shaped C.prog ∧ i.vars = [] ∧ Input.okWide C.prog (w.forCall tape i) .any w.heap.size f i ∧
  ((s.pre enc C.prog fn conds apart (w.forCall tape i).memory i.args ∧ X (w.forCall tape i).memory i.args) ∧ sizedMet enc C.prog fn (OpenSpec.ofChange s) apart (w.forCall tape i).memory i.args) ∧ a.holds C.prog (lone (Frame.enter C.prog f i.args .normal) [] (w.forCall tape i)))
 (contract : ∀ (W : World) (base : Nat) (args : Array Value) (ds gs : List (DataW H)) (before : List MemPlace),
  (∀ (j : Nat) t v, fn.params[j]? = some t → args[j]? = some v → Value.okWide C.prog W .any base t v) →
  DataW.Whole enc C.prog fn.params.toList s.vars apart W args.toList ds gs before → X W args → W.ShapedOpen C.prog →
  Calls C.prog f args W fun e W' => ∃ v, e = .returned v ∧ s.post enc C.prog fn apart fresh handsOn again W args v W') :
 ReturnsInHanded a C os f .any (fun w args => (s.pre enc C.prog fn conds apart w args ∧ X w args) ∧ sizedMet enc C.prog fn (OpenSpec.ofChange s) apart w args) (s.post enc C.prog fn apart fresh handsOn again) := by
 refine returnsInHanded_of_calls own started noInit witness ?_
 intro w tape i _ hsh _ hok hpre _
 obtain ⟨_, _, _, fn', hfn', _, _, _, _, hval⟩ := hok
 have e : fn' = fn := Option.some.inj (hfn'.symm.trans hfn)
 subst e
 obtain ⟨⟨⟨ds, gs, before, hw, _⟩, hx⟩, _⟩ := hpre
 have hw' := DataW.Whole.of_heap (w' := w.forCall tape i) (by rfl) hw
 refine (contract (w.forCall tape i) w.heap.size i.args ds gs before hval hw' (hX _ _ _ (by rfl) hx) hsh).mono fun e W' ⟨v, he, hp⟩ => ?_
 subst he
 exact ChangeSpec.post_blind hp
theorem envB_of {W : World} (h : Env W) (hsh : W.ShapedOpen Tryz.prog) : EnvB W.heap.size W := by
 obtain ⟨m, hm⟩ := Tryz.laysM185.s1_3 W hsh
 obtain ⟨t, ⟨a, p, s⟩, ⟨b, q, r⟩⟩ := h
 have hm' : W.cell? ⟨0, 0, none⟩ = some (.int .i64 m) := hm
 exact ⟨⟨t, ⟨a, p, s⟩, ⟨b, q, r⟩⟩, ⟨m, hm'⟩, var_lt globTab t, var_lt globSyn s, var_lt globRng r, World.block_lt_of_cell? W _ hm'⟩
end
end Go.Proofs.YtpgfnlhfciacoaaGreatDoor
