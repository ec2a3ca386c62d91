/- frame: frames, what it keeps and writes. Plain facts, no walk. -/
import Derived.Test.YtldlghfjinpnkaaDoorRangeB
import Derived.Test.YtldlghfjinpnkaaDoorFrs
namespace Go.Proofs.YtldlghfjinpnkaaDoor
open Go.RowKit

theorem EnvB.same {B : Nat} {w w' : World} (h : EnvB B w) (hb : ∀ k, k < B → w'.heap[k]? = w.heap[k]?) : EnvB B w' := by
  have hs : Below B w { w with heap := w'.heap } ∨ True := .inr trivial
  obtain ⟨⟨t, ⟨a, p, s⟩, ⟨b, q, r⟩⟩, ⟨m, hm⟩, l1, l2, l3, l4⟩ := h
  have hv : ∀ (n : String) (g : Nat) (cs : Array Value), Tryd.prog.globalNamed n = some g → g < B → w.var? Tryd.prog n = some cs → w'.var? Tryd.prog n = some cs := fun n g cs hg hgB hv => by
    unfold World.var? at hv ⊢
    simp only [hg, Option.bind_some] at hv ⊢
    rw [hb g hgB]
    exact hv
  exact ⟨⟨hv _ _ _ globTab l1 t, ⟨a, p, hv _ _ _ globSyn l2 s⟩, ⟨b, q, hv _ _ _ globRng l3 r⟩⟩, ⟨m, (World.cell?_of_block (a := ⟨0, 0, none⟩) (hb _ l4)).trans hm⟩, l1, l2, l3, l4⟩

/-- A frame and where its data lie. -/
structure FV where
  f : Fr
  A : Option Addr
  c : Nat
def FV.v (x : FV) : Value := .slice x.A x.f.data.length x.c
def encF (x : FV) : Array Value := #[.agg #[.int .i64 (x.f.kind : Int), .slice x.A x.f.data.length x.c]]
def GdF (x : FV) (W : World) : Prop := ∃ g, BRow g W x.A x.c x.f.data
/-- The variable that a round appends to, and its row. -/
def BxF (lb n0 : Nat) (W : World) : Prop := ∃ v n xs, Boxed W lb 27 v ∧ W.ownsRow n0 42 2 v n xs
/-- What the iterator does between two rounds. -/
def ItF (bs : Nat) (A B : World) : Prop := A.grownBy B (some bs) ∧ ∃ cs fr, A.heap[bs]? = some (.cells cs 49 fr)
/-- What a round keeps. -/
def KpF (B0 lb : Nat) (A B : World) : Prop :=
  A.heap.size ≤ B.heap.size ∧ (∀ k, k < B0 → B.heap[k]? = A.heap[k]?) ∧
    ∀ i cs T fr, A.heap[i]? = some (.cells cs T fr) → i ≠ lb → (∀ v, Boxed A lb 27 v → v.ownBlock ≠ some i) → B.heap[i]? = some (.cells cs T fr)

theorem putObj_other {W : World} {l i : Nat} {o' : Obj} (h : i ≠ l) : (W.putObj l o').heap[i]? = W.heap[i]? := World.putObj_heap_other h
theorem size_putObj (W : World) (l : Nat) (o : Obj) : (W.putObj l o).heap.size = W.heap.size := by simp [World.putObj]
theorem cells_ne {W : World} {l i : Nat} {o : Obj} {cs : Array Value} {T : TypeId} {fr : Nat × Nat} (hl : W.heap[l]? = some o) (ho : o.isCells = false) (hi : W.heap[i]? = some (.cells cs T fr)) : i ≠ l := by
  rintro rfl
  rw [hl] at hi
  cases hi
  simp [Obj.isCells] at ho
theorem boxed_put {W : World} {lb l : Nat} {o o' : Obj} {T : TypeId} {v : Value} (hl : W.heap[l]? = some o) (ho' : o'.isCells = false) (h : Boxed (W.putObj l o') lb T v) : Boxed W lb T v := by
  have hne : lb ≠ l := by
    rintro rfl
    have h1 : (W.putObj lb o').heap[lb]? = some o' := World.putObj_heap_same (Array.getElem?_eq_some_iff.1 hl).1
    rw [show (W.putObj lb o').heap[lb]? = _ from h] at h1
    cases h1
    simp [Obj.isCells] at ho'
  exact (putObj_other hne).symm.trans h
theorem kpF_l {B0 lb : Nat} {A B : World} {l : Nat} {o o' : Obj} (hB : B0 ≤ l) (hl : A.heap[l]? = some o) (ho : o.isCells = false) (ho' : o'.isCells = false) (h : KpF B0 lb (A.putObj l o') B) : KpF B0 lb A B := by
  obtain ⟨h1, h2, h3⟩ := h
  refine ⟨by rw [size_putObj] at h1; exact h1, fun k hk => (h2 k hk).trans (putObj_other (by omega)), fun i cs T fr hi hne hv => h3 i cs T fr ((putObj_other (cells_ne hl ho hi)).trans hi) hne (fun v hb => hv v (boxed_put hl ho' hb))⟩
theorem kpF_r {B0 lb : Nat} {A B : World} {l : Nat} {o o' : Obj} (hB : B0 ≤ l) (hl : B.heap[l]? = some o) (ho : o.isCells = false) (h : KpF B0 lb A B) : KpF B0 lb A (B.putObj l o') := by
  obtain ⟨h1, h2, h3⟩ := h
  refine ⟨by rw [size_putObj]; exact h1, fun k hk => (putObj_other (by omega)).trans (h2 k hk), fun i cs T fr hi hne hv => ?_⟩
  have := h3 i cs T fr hi hne hv
  exact (putObj_other (cells_ne hl ho this)).trans this
theorem BRow.put {g c : Nat} {W : World} {A : Option Addr} {d : List UInt8} {l : Nat} {o o' : Obj} (hl : W.heap[l]? = some o) (ho : o.isCells = false) (h : BRow g W A c d) : BRow g (W.putObj l o') A c d := by
  rcases h.lies with ⟨h0, h1⟩ | ⟨off, cs, hA, hh, hs, hc⟩
  · exact ⟨h.le, h.cap, .inl ⟨h0, h1⟩⟩
  · exact h.kept fun _ => putObj_other (cells_ne hl ho hh)
theorem Spl.put {B bs g k : Nat} {R : List UInt8} {W : World} {l : Nat} {o o' : Obj} (hB : B ≤ l) (hl : W.heap[l]? = some o) (ho : o.isCells = false) (h : Spl B bs g R k W) : Spl B bs g R k (W.putObj l o') := by
  obtain ⟨lo, hi, env, A, c, hb, st⟩ := h
  refine ⟨lo, by rw [size_putObj]; exact hi, env.same (fun k hk => putObj_other (by omega)), A, c, hb.put hl ho, ?_⟩
  rcases st with ⟨a, h1, h2⟩ | ⟨ln, h2⟩
  · exact .inl ⟨a, h1, ⟨(putObj_other (cells_ne hl ho h2.blk)).trans h2.blk⟩⟩
  · exact .inr ⟨ln, ⟨(putObj_other (cells_ne hl ho h2.blk)).trans h2.blk⟩⟩
/-- A block of another type is not the row that a round writes. -/
theorem bx_ne {lb n0 : Nat} {A : World} {i : Nat} {cs : Array Value} {T : TypeId} {fr : Nat × Nat} (hx : BxF lb n0 A) (hi : A.heap[i]? = some (.cells cs T fr)) (hT : T ≠ 27) (hT2 : T ≠ 42) : i ≠ lb ∧ ∀ v, Boxed A lb 27 v → v.ownBlock ≠ some i := by
  obtain ⟨v0, n, xs, h1, h2⟩ := hx
  refine ⟨?_, fun v hv e => ?_⟩
  · rintro rfl
    have := (show A.heap[i]? = _ from h1).symm.trans hi
    simp at this
    exact hT this.2.1.symm
  · have hvv : v0 = v := by
      have := (show A.heap[lb]? = _ from h1).symm.trans hv
      simp at this
      exact this
    subst hvv
    rcases h2.2 with ⟨rfl, _⟩ | ⟨g, cap, cur, rfl, _, hgb, _⟩
    · simp [Value.ownBlock] at e
    · obtain rfl : g = i := by simpa [Value.ownBlock] using e
      rw [hgb] at hi
      simp at hi
      exact hT2 hi.2.1.symm
theorem Spl.kp {B bs g k lb n0 : Nat} {R : List UInt8} {A B' : World} (h : Spl B bs g R k A) (hx : BxF lb n0 A) (hk : KpF B lb A B') : Spl B bs g R k B' := by
  obtain ⟨lo, hi, env, A0, c, hb, st⟩ := h
  have rk : ∀ {n c' ln a dr fn}, Raw bs A0 n c' ln a dr fn A → Raw bs A0 n c' ln a dr fn B' := fun hr => ⟨hk.2.2 _ _ _ _ hr.blk (bx_ne hx hr.blk (by decide) (by decide)).1 (bx_ne hx hr.blk (by decide) (by decide)).2⟩
  refine ⟨lo, Nat.le_trans hi hk.1, env.same hk.2.1, A0, c, ?_, ?_⟩
  · rcases hb.lies with ⟨h0, h1⟩ | ⟨off, cs, hA, hh, hs, hc⟩
    · exact ⟨hb.le, hb.cap, .inl ⟨h0, h1⟩⟩
    · exact hb.kept fun _ => (hk.2.2 _ _ _ _ hh (bx_ne hx hh (by decide) (by decide)).1 (bx_ne hx hh (by decide) (by decide)).2).trans hh.symm
  · rcases st with ⟨a, h1, h2⟩ | ⟨ln, h2⟩
    · exact .inl ⟨a, h1, rk h2⟩
    · exact .inr ⟨ln, rk h2⟩

theorem fn_ne {bs : Nat} : stFn 19 bs ≠ stFn 36 bs := by
  intro h
  simp [stFn] at h
/-- What waits in a splitter's memory is one. -/
theorem Spl.uniq {B bs g k k2 : Nat} {R R2 : List UInt8} {w : World} (h : Spl B bs g R k w) (h2 : Spl B bs g R2 k2 w) : R = R2 ∧ k = k2 := by
  obtain ⟨_, _, _, A, c, hb, st⟩ := h
  obtain ⟨_, _, _, A2, c2, hb2, st2⟩ := h2
  have key : A = A2 ∧ R.length = R2.length ∧ k = k2 := by
    rcases st with ⟨a, _, h1⟩ | ⟨ln, h1⟩ <;> rcases st2 with ⟨a2, _, h3⟩ | ⟨ln2, h3⟩
    all_goals
      have e := h1.blk.symm.trans h3.blk
      simp only [Option.some.injEq, Obj.cells.injEq, Array.mk.injEq, List.cons.injEq, Value.slice.injEq, Value.int.injEq, and_true, true_and] at e
      first
        | exact ⟨e.1.1, e.1.2.1, by omega⟩
        | exact absurd e.2.2.2 fn_ne
        | exact absurd e.2.2.2.symm fn_ne
        | exact absurd e.2.2.2.2 fn_ne
        | exact absurd e.2.2.2.2.symm fn_ne
  obtain ⟨rfl, hl, rfl⟩ := key
  refine ⟨List.ext_getElem hl fun i h1 h3 => ?_, rfl⟩
  obtain ⟨b, off, e1, _, _, c1⟩ := hb.by.cell h1
  obtain ⟨b', off', e2, _, _, c2⟩ := hb2.by.cell h3
  rw [e1] at e2
  simp only [Option.some.injEq, Addr.mk.injEq, and_true] at e2
  obtain ⟨rfl, rfl⟩ := e2
  rw [c1] at c2
  simp only [Option.some.injEq, Value.int.injEq, true_and] at c2
  exact UInt8.toNat_inj.1 (by omega)

open Classical in
/-- How many bytes are still to be looked at, read off the world: for the loop's measure. -/
noncomputable def muF (B bs g : Nat) (W : World) : Nat := if h : ∃ m, ∃ R k, Spl B bs g R k W ∧ m = R.length - k then h.choose else 0
theorem muF_eq {B bs g k : Nat} {R : List UInt8} {W : World} (h : Spl B bs g R k W) : muF B bs g W = R.length - k := by
  have hx : ∃ m, ∃ R k, Spl B bs g R k W ∧ m = R.length - k := ⟨_, R, k, h, rfl⟩
  unfold muF
  rw [dif_pos hx]
  obtain ⟨R2, k2, h2, he⟩ := hx.choose_spec
  obtain ⟨rfl, rfl⟩ := h.uniq h2
  exact he
def okN : Value → Nat
  | .bool true => 1
  | _ => 0
/-- Whatever waits in the end is short enough to be no long line. -/
def Short (R0 : List UInt8) : Prop := ∀ fs R k, Runs R0 0 fs R k → endOf R k = none → R.length ≤ k + 8192
theorem short_of {R0 : List UInt8} (h : R0.length ≤ 8192) : Short R0 := fun fs R k hr _ => by
  have := hr.len.2.1
  omega

set_option maxRecDepth 100000 in
set_option maxHeartbeats 1000000 in
theorem left_any (B bs g k : Nat) (R : List UInt8) (hR : R.length ≤ 1000000) (w : World) (h : Spl B bs g R k w) :
    Calls Tryd.prog 14 #[.pointer (some ⟨bs, 0, none⟩)] w fun e w' => e = .returned (.int .i64 ((R.length : Nat) : Int)) ∧ Below w.heap.size w w' := by
  have hc : ∃ A c, w.cell? ⟨bs, 0, none⟩ = some (.slice A R.length c) ∧ w.cell? ⟨bs, 3, none⟩ = some (.int .i64 0) := by
    obtain ⟨_, _, _, A, c, _, st⟩ := h
    rcases st with ⟨_, _, h2⟩ | ⟨_, h2⟩ <;> exact ⟨A, c, h2.c0, h2.c3⟩
  obtain ⟨A, c, c0, c3⟩ := hc
  clear h
  generalize R.length = n at *
  have hs : IntKind.i64.wrap (0 + (n : Int)) = (n : Int) := by rw [Go.IntWalk.i64_in _ (by omega)]; omega
  go_enter Tryd.func14, Tryd.ntmps14
  go_wp2_with fail
  go_quiet (fail)
  go_wp2_with fail
  go_ret
  exact ⟨by first | rfl | rw [Int.zero_add], drewN_below _ _⟩

set_option maxRecDepth 100000 in
theorem left_nil (w : World) :
    Calls Tryd.prog 14 #[.pointer none] w fun e w' => e = .returned (.int .i64 0) ∧ w = w' := by
  go_enter Tryd.func14, Tryd.ntmps14
  go_wp2_with fail
  go_ret
  exact ⟨rfl, rfl⟩
set_option maxRecDepth 100000 in
theorem feed_nil (A : Option Addr) (n c : Nat) (w : World) :
    Calls Tryd.prog 10 #[.pointer none, .slice A n c] w fun e w' => e = .returned (.tuple #[]) ∧ w = w' := by
  go_enter Tryd.func10, Tryd.ntmps10
  go_wp2_with fail
  go_end0
  exact ⟨rfl, rfl⟩
set_option maxRecDepth 100000 in
theorem next_nil (w : World) :
    Calls Tryd.prog 18 #[.pointer none] w fun e w' => e = .returned (.tuple #[.agg #[.int .i64 0, .slice none 0 0], .bool false]) ∧ Below w.heap.size w w' := by
  go_enter Tryd.func18, Tryd.ntmps18
  go_wp2_with fail
  refine bodyPost_ret (v := .tuple #[.agg #[.int .i64 0, .slice none 0 0], .bool false]) (by simp [results, Tryd.results18, go_sem]) rfl ⟨rfl, ?_⟩
  repeat (first | exact Below.refl _ _ | exact below_al _ _ | refine belDraw ?_)
end Go.Proofs.YtldlghfjinpnkaaDoor
