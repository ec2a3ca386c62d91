/- frame: readLiteral behind its bytes; Next; Feed; New; Left. -/
import Derived.Test.YtldlghfjinpnkaaDoorNext
namespace Go.Proofs.YtldlghfjinpnkaaDoor
open Go.RowKit

theorem BRow.typed {g c r : Nat} {w w' : World} {A : Option Addr} {l : List UInt8} {cs : Array Value} {T : TypeId} {fr : Nat × Nat} (h : BRow g w A c l) (hk : w.grownBy w' (some r)) (hr : w.heap[r]? = some (.cells cs T fr)) (hT : T ≠ 5) : BRow g w' A c l := by
  rcases h.lies with ⟨h0, h1⟩ | ⟨off, cs', hA, hh, _, _⟩
  · exact ⟨h.le, h.cap, .inl ⟨h0, h1⟩⟩
  · refine h.grown hk (fun e => ?_)
    obtain rfl := Option.some.inj e
    rw [hh] at hr
    simp only [Option.some.injEq, Obj.cells.injEq] at hr
    exact hT hr.2.1.symm

/-- What Next answers, its parts by name. -/
def NxRes (B bs g : Nat) (R : List UInt8) (k : Nat) (w : World) (x : Int) (v : Value) (b : Bool) (w' : World) : Prop :=
  (∃ f R' k', stepF R k = some (f, R', k') ∧ x = (f.kind : Int) ∧ b = true ∧ FrD (w.heap.size ≤ ·) w' v f.data ∧ Spl B bs g R' k' w' ∧ w.grownBy w' (some bs)) ∨
  (endOf R k = none ∧ x = 0 ∧ v = .slice none 0 0 ∧ b = false ∧ Spl B bs g R k w' ∧ w.grownBy w' (some bs))
theorem NxPost.form {B bs g : Nat} {R : List UInt8} {k : Nat} {w w' : World} {e' : Ending} (h : NxPost B bs g R k w e' w') : ∃ x A m c b, e' = .returned (.tuple #[.agg #[.int .i64 x, .slice A m c], .bool b]) ∧ NxRes B bs g R k w x (.slice A m c) b w' := by
  rcases h with ⟨f, R', k', v, h1, h2, h3, h4, h5⟩ | ⟨h1, h2, h3, h4⟩
  · obtain ⟨A, c, g', rfl, h6, h7⟩ := h3
    exact ⟨_, A, _, c, true, h2, .inl ⟨f, R', k', h1, rfl, rfl, ⟨A, c, g', rfl, h6, h7⟩, h4, h5⟩⟩
  · exact ⟨_, _, _, _, _, h2, .inr ⟨h1, rfl, rfl, rfl, h3, h4⟩⟩
theorem NxRes.post {B bs g : Nat} {R : List UInt8} {k : Nat} {w w' : World} {x : Int} {v : Value} {b : Bool} (h : NxRes B bs g R k w x v b w') : NxPost B bs g R k w (.returned (.tuple #[.agg #[.int .i64 x, v], .bool b])) w' := by
  rcases h with ⟨f, R', k', h1, rfl, rfl, h3, h4, h5⟩ | ⟨h1, rfl, rfl, rfl, h3, h4⟩
  · exact .inl ⟨f, R', k', v, h1, rfl, h3, h4, h5⟩
  · exact .inr ⟨h1, rfl, h3, h4⟩
theorem NxRes.grown {B bs g : Nat} {R : List UInt8} {k : Nat} {w w' : World} {x : Int} {v : Value} {b : Bool} (h : NxRes B bs g R k w x v b w') : w.grownBy w' (some bs) := by
  rcases h with ⟨f, R', k', h1, h2, h3, h4, h5, h6⟩ | ⟨h1, h2, h3, h4, h5, h6⟩ <;> exact h6
theorem Spl.typed {B bs g r k : Nat} {R : List UInt8} {w w' : World} {cs : Array Value} {T : TypeId} {fr : Nat × Nat} (h : Spl B bs g R k w) (hk : w.grownBy w' (some r)) (hr : w.heap[r]? = some (.cells cs T fr)) (hT : T ≠ 5) (hne : bs ≠ r) (hB : B ≤ r) : Spl B bs g R k w' := by
  obtain ⟨lo, hi, env, A, c, hb, st⟩ := h
  refine ⟨lo, Nat.le_trans hi hk.size, env.grown hk hB hi, A, c, hb.typed hk hr hT, ?_⟩
  rcases st with ⟨a, h1, h2⟩ | ⟨ln, h2⟩
  · exact .inl ⟨a, h1, h2.grown hk (fun e => hne (Option.some.inj e))⟩
  · exact .inr ⟨ln, h2.grown hk (fun e => hne (Option.some.inj e))⟩
theorem FrD.typed {P Q : Nat → Prop} {r : Nat} {v : Value} {l : List UInt8} {w w' : World} {cs : Array Value} {T : TypeId} {fr : Nat × Nat} (h : FrD P w v l) (hk : w.grownBy w' (some r)) (hr : w.heap[r]? = some (.cells cs T fr)) (hT : T ≠ 5) (hP : ∀ x, P x → Q x) : FrD Q w' v l := by
  obtain ⟨A, c, g, h1, h2, h3⟩ := h
  exact ⟨A, c, g, h1, h2.typed hk hr hT, hP _ h3⟩
theorem NxRes.later {B bs g r : Nat} {R : List UInt8} {k : Nat} {w W w4 w' : World} {x : Int} {v : Value} {b : Bool} {cs : Array Value} {T : TypeId} {fr : Nat × Nat} (h : NxRes B bs g R k W x v b w4) (hW : w.grownBy W (some bs)) (hk : w4.grownBy w' (some r)) (hr : w4.heap[r]? = some (.cells cs T fr)) (hT : T ≠ 5) (hbs : bs < w.heap.size) (hz : w.heap.size ≤ r) (hw : B ≤ w.heap.size) : NxRes B bs g R k w x v b w' := by
  rcases h with ⟨f, R', k', h1, h2, h3, h4, h5, h6⟩ | ⟨h1, h2, h3, h4, h5, h6⟩
  · exact .inl ⟨f, R', k', h1, h2, h3, h4.typed hk hr hT (fun _ hx => Nat.le_trans hW.size hx), h5.typed hk hr hT (by omega) (by omega), (hW.trans h6).andThen hk (fun j hj => .inl (by injection hj; omega))⟩
  · exact .inr ⟨h1, h2, h3, h4, h5.typed hk hr hT (by omega) (by omega), (hW.trans h6).andThen hk (fun j hj => .inl (by injection hj; omega))⟩

set_option maxRecDepth 100000 in
set_option maxHeartbeats 4000000 in
theorem readLit_go (B bs g c : Nat) (A : Option Addr) (R : List UInt8) (k n : Nat) (ln : Int) (hn : R.length = n) (hR : n ≤ 1000000) (w : World) (lo : B ≤ bs ∧ B ≤ g ∧ g ≠ bs) (hw : B ≤ w.heap.size) (henv : EnvB B w) (hb : BRow g w A c R)
    (h : Raw bs A n c ln (k : Int) 0 (stFn 36 bs) w) (hk : k ≤ n) (hsh : endOf R k = none → n ≤ k + 8192) :
    Calls Tryd.prog 36 #[.pointer (some ⟨bs, 0, none⟩)] w (NxPost B bs g R k w) := by
  have hbs := h.lt
  have b0 := below_al w (.cells #[.int .i64 0, .slice none 0 0] 42)
  have H1 := Lib.hid (h.grow b0)
  have G0 := Lib.hid (grown_of_below (row := some bs) b0)
  have RL := Lib.hid (fun (W : World) (hW : w.grownBy W (some bs)) (hr : Raw bs A n c (k : Int) (k : Int) 0 (stFn 19 bs) W) => readLine_any B bs g c A R k k n hn hR W lo (Nat.le_trans hw hW.size) (henv.grown hW lo.1 hw) (hb.grown hW (fun e => lo.2.2 (Option.some.inj e))) ⟨Nat.le_refl _, by omega, fun j h1 h2 => absurd h1 (by omega)⟩ hr hsh)
  have hw2 : (w.alloc (.cells #[.int .i64 0, .slice none 0 0] 42)).heap[w.heap.size]? = some (.cells #[.int .i64 0, .slice none 0 0] 42 (0, 0)) := heap_alloc_new _ _
  have ht : decide ((n : Int) < (k : Int)) = false := by simp; omega
  have ht2 : decide (n < k) = false := by simp; omega
  have hz : w.heap.size < (w.alloc (.cells #[.int .i64 0, .slice none 0 0] 42)).heap.size := by simp
  clear h hn henv hb lo b0 hsh
  go_enter Tryd.func36, Tryd.ntmps36
  go_wp2_with fail
  generalize w.alloc (.cells #[.int .i64 0, .slice none 0 0] 42) = w1 at *
  have c0 := H1.out.c0
  have c1 := H1.out.c1
  have c2 := H1.out.c2
  have c4 := H1.out.c4
  have f1 := H1.out.fz 1
  have f4 := H1.out.fz 4
  go_quiet (fail)
  go_wp2_with fail
  have R5 := Lib.hid ((H1.out.set1 (k : Int)).set4 (stFn 19 bs))
  have G5 := Lib.hid (grown_set (grown_set (World.grownBy.refl w1 (some bs)) 1 (.int .i64 (k : Int))) 4 (stFn 19 bs))
  have RB5 := Lib.hid ((G5.out.block _ hz (fun e => by injection e; omega)).trans hw2)
  have G6 := Lib.hid (fun q => grown_drawN (G0.out.trans G5.out) q)
  refine (RL.out _ (G6.out _) (R5.out.drewN _)).mono ?_
  rintro e' w4 hp
  obtain ⟨x, A2, m2, c9, b, he, hq⟩ := hp.form
  clear hp
  subst he
  have hg4 : w1.grownBy w4 (some bs) := World.grownBy.trans (grown_drawN G5.out _) (NxRes.grown hq)
  have RB4 := Lib.hid ((hg4.block _ hz (fun e => by injection e; omega)).trans hw2)
  have k0 := cell_of_row _ _ 0 _ _ _ RB4.out
  have k1 := cell_of_row _ _ 1 _ _ _ RB4.out
  have kf0 := Joins.unfrozen_of_block RB4.out 0
  have kf1 := Joins.unfrozen_of_block RB4.out 1
  have HP : Hid (NxRes B bs g R k _ x (.slice A2 m2 c9) b w4) := Lib.hid hq
  clear hq RL R5 G5 RB5 hg4 hw2
  go_wp2_with fail
  refine bodyPost_ret (v := .tuple #[.agg #[.int .i64 x, .slice A2 m2 c9], .bool b]) (by simp [results, Tryd.results36, go_sem, k0, k1]) rfl ?_
  refine (HP.out.later (G6.out _) ?_ RB4.out (by decide) hbs (Nat.le_refl _) hw).post
  repeat (first | exact World.grownBy.refl _ _ | refine grown_set ?_ _ _ | refine grown_drawN ?_ _ | refine grown_draw ?_)

set_option maxRecDepth 100000 in
set_option maxHeartbeats 4000000 in
/-- NEXT. -/
theorem next_any (B bs g : Nat) (R : List UInt8) (k : Nat) (hR : R.length ≤ 1000000) (w : World) (h : Spl B bs g R k w) (hbs : bs < w.heap.size) (hsh : endOf R k = none → R.length ≤ k + 8192) :
    Calls Tryd.prog 18 #[.pointer (some ⟨bs, 0, none⟩)] w (NxPost B bs g R k w) := by
  obtain ⟨lo, hw, henv, A, c, hb, st⟩ := h
  have b0 := below_al w (.cells #[.int .i64 0, .slice none 0 0] 42)
  have G0 := Lib.hid (grown_of_below (row := some bs) b0)
  have hw2 : (w.alloc (.cells #[.int .i64 0, .slice none 0 0] 42)).heap[w.heap.size]? = some (.cells #[.int .i64 0, .slice none 0 0] 42 (0, 0)) := heap_alloc_new _ _
  have hz : w.heap.size < (w.alloc (.cells #[.int .i64 0, .slice none 0 0] 42)).heap.size := by simp
  rcases st with ⟨a, hs, hr⟩ | ⟨ln, hr⟩
  · have RL := Lib.hid (readLine_any B bs g c A R k a R.length rfl hR _ lo (by simp; omega) (henv.below (b0.mono hw)) (hb.grow b0) hs (hr.grow b0) hsh)
    have c4 := hr.c4
    clear hs hr henv hb lo b0 hsh
    unfold stFn at c4
    go_enter Tryd.func18, Tryd.ntmps18
    go_wp2_with fail
    refine RL.out.mono ?_
    rintro e' w4 hp
    obtain ⟨x, A2, m2, c9, b, he, hq⟩ := hp.form
    clear hp
    subst he
    have hg4 : (w.alloc (.cells #[.int .i64 0, .slice none 0 0] 42)).grownBy w4 (some bs) := NxRes.grown hq
    have RB4 := Lib.hid ((hg4.block _ hz (fun e => by injection e; omega)).trans hw2)
    have k0 := cell_of_row _ _ 0 _ _ _ RB4.out
    have k1 := cell_of_row _ _ 1 _ _ _ RB4.out
    have kf0 := Joins.unfrozen_of_block RB4.out 0
    have kf1 := Joins.unfrozen_of_block RB4.out 1
    have HP : Hid (NxRes B bs g R k _ x (.slice A2 m2 c9) b w4) := Lib.hid hq
    clear hq RL hg4 hw2 hz c4
    go_wp2_with fail
    refine bodyPost_ret (v := .tuple #[.agg #[.int .i64 x, .slice A2 m2 c9], .bool b]) (by simp [results, Tryd.results18, go_sem, k0, k1]) rfl ?_
    refine (HP.out.later G0.out ?_ RB4.out (by decide) hbs (Nat.le_refl _) hw).post
    repeat (first | exact World.grownBy.refl _ _ | refine grown_set ?_ _ _ | refine grown_drawN ?_ _ | refine grown_draw ?_)
  · have RL : Calls Tryd.prog 36 #[.pointer (some ⟨bs, 0, none⟩)] (w.alloc (.cells #[.int .i64 0, .slice none 0 0] 42)) (NxPost B bs g R k (w.alloc (.cells #[.int .i64 0, .slice none 0 0] 42))) := by
      by_cases hk : k ≤ R.length
      · exact readLit_go B bs g c A R k R.length ln rfl hR _ lo (by simp; omega) (henv.below (b0.mono hw)) (hb.grow b0) (hr.grow b0) hk hsh
      · exact readLit_wait B bs g c A R k R.length ln rfl hR _ lo (by simp; omega) (henv.below (b0.mono hw)) (hb.grow b0) (hr.grow b0) (by omega)
    have RL := Lib.hid RL
    have c4 := hr.c4
    clear hr henv hb lo b0 hsh
    unfold stFn at c4
    go_enter Tryd.func18, Tryd.ntmps18
    go_wp2_with fail
    refine RL.out.mono ?_
    rintro e' w4 hp
    obtain ⟨x, A2, m2, c9, b, he, hq⟩ := hp.form
    clear hp
    subst he
    have hg4 : (w.alloc (.cells #[.int .i64 0, .slice none 0 0] 42)).grownBy w4 (some bs) := NxRes.grown hq
    have RB4 := Lib.hid ((hg4.block _ hz (fun e => by injection e; omega)).trans hw2)
    have k0 := cell_of_row _ _ 0 _ _ _ RB4.out
    have k1 := cell_of_row _ _ 1 _ _ _ RB4.out
    have kf0 := Joins.unfrozen_of_block RB4.out 0
    have kf1 := Joins.unfrozen_of_block RB4.out 1
    have HP : Hid (NxRes B bs g R k _ x (.slice A2 m2 c9) b w4) := Lib.hid hq
    clear hq RL hg4 hw2 hz c4
    go_wp2_with fail
    refine bodyPost_ret (v := .tuple #[.agg #[.int .i64 x, .slice A2 m2 c9], .bool b]) (by simp [results, Tryd.results18, go_sem, k0, k1]) rfl ?_
    refine (HP.out.later G0.out ?_ RB4.out (by decide) hbs (Nat.le_refl _) hw).post
    repeat (first | exact World.grownBy.refl _ _ | refine grown_set ?_ _ _ | refine grown_drawN ?_ _ | refine grown_draw ?_)

set_option maxRecDepth 100000 in
set_option maxHeartbeats 4000000 in
theorem new_any (B : Nat) (w : World) (hw : B ≤ w.heap.size) (henv : EnvB B w) :
    Calls Tryd.prog 9 #[] w fun e w' => e = .returned (.pointer (some ⟨w.heap.size, 0, none⟩)) ∧ Spl B w.heap.size (w.heap.size + 1) [] 0 w' ∧ Below w.heap.size w w' ∧ w.heap.size < w'.heap.size := by
  have B1 := Lib.hid (below_al w (.cells #[.slice none 0 0, .int .i64 0, .int .i64 0, .int .i64 0, stFn 19 w.heap.size] 49))
  have H1 : Hid (Raw w.heap.size none 0 0 0 0 0 (stFn 19 w.heap.size) (w.alloc (.cells #[.slice none 0 0, .int .i64 0, .int .i64 0, .int .i64 0, stFn 19 w.heap.size] 49))) := Lib.hid ⟨heap_alloc_new _ _⟩
  have HENV := Lib.hid henv
  clear henv
  go_enter Tryd.func9, Tryd.ntmps9
  go_wp2_with fail
  go_ret
  refine ⟨rfl, ⟨⟨hw, by omega, by omega⟩, Nat.le_trans hw B1.out.size, HENV.out.below (B1.out.mono hw), none, 0, BRow.nil _ _, .inl ⟨0, ⟨Nat.le_refl _, Nat.le_refl _, fun _ _ hj => absurd hj (Nat.not_lt_zero _)⟩, H1.out⟩⟩, B1.out, H1.out.lt⟩

/-- Feed's memory: first the buffer's row, then the splitter's block. -/
def FdPost (B bs g : Nat) (R p : List UInt8) (k : Nat) (w : World) (w' : World) : Prop :=
  ∃ g' w1, (g' = g ∨ w.heap.size ≤ g') ∧ Spl B bs g' (R ++ p) k w' ∧ w.grownBy w1 (some g) ∧ w1.grownBy w' (some bs)

set_option maxRecDepth 100000 in
set_option maxHeartbeats 4000000 in
theorem feed_any (B bs g : Nat) (R : List UInt8) (k : Nat) (p : List UInt8) (m : Nat) (hm : p.length = m) (hR : R.length + m ≤ 1000000) (w : World) (h : Spl B bs g R k w) (hbs : bs < w.heap.size) (D c2 : Nat) (A2 : Option Addr) (hp : ByAt D w A2 c2 p) :
    Calls Tryd.prog 10 #[.pointer (some ⟨bs, 0, none⟩), .slice A2 m c2] w fun e w' => e = .returned (.tuple #[]) ∧ FdPost B bs g R p k w w' := by
  obtain ⟨lo, hw, henv, A, c, hb, st⟩ := h
  obtain ⟨A', c', w1, g', hr, hg, hb1, hgr⟩ := append_brow w 26 g A c R.length R hb rfl D A2 c2 m p hp hm (by omega)
  have hX : ∃ ln a : Int, ∃ fn, Raw bs A R.length c ln a 0 fn w ∧ ((fn = stFn 19 bs ∧ ln = (k : Int) ∧ ∃ b : Nat, a = (b : Int) ∧ Scan R k b) ∨ (fn = stFn 36 bs ∧ a = (k : Int))) := by
    rcases st with ⟨a, h1, h2⟩ | ⟨ln, h2⟩
    · exact ⟨_, _, _, h2, .inl ⟨rfl, rfl, a, rfl, h1⟩⟩
    · exact ⟨_, _, _, h2, .inr ⟨rfl, rfl⟩⟩
  clear st
  obtain ⟨ln, a, fn, hraw, HF⟩ := hX
  have HF := Lib.hid HF
  have R1 := Lib.hid (hraw.grown hgr (fun e => lo.2.2 (Option.some.inj e).symm))
  have c0 := hraw.c0
  have RS := Lib.hid (R1.out.set0 A' (R.length + m) c')
  have HG := Lib.hid hg
  have HB1 := Lib.hid hb1
  have HGR := Lib.hid hgr
  have HR := Lib.hid hr
  have HENV := Lib.hid henv
  have LO := Lib.hid lo
  have HM := Lib.hid hm
  have d0 := R1.out.c0
  have f0 := R1.out.fz 0
  clear hr hg hb1 hgr hraw henv lo hb hp hm
  go_enter Tryd.func10, Tryd.ntmps10
  go_wp2_with (at_builtin; refine Lib.wpList_append_run_sl _ rfl _ _ 26 rfl _ _ rfl rfl HR.out ?_)
  go_end0
  refine ⟨rfl, g', w1, HG.out, ⟨⟨LO.out.1, ?_, ?_⟩, Nat.le_trans hw (Nat.le_trans HGR.out.size (grown_setCell w1 bs 0 _).size), ?_, A', c', ?_, ?_⟩, HGR.out, grown_setCell w1 bs 0 _⟩
  · rcases HG.out with rfl | h
    · exact LO.out.2.1
    · omega
  · rcases HG.out with rfl | h
    · exact LO.out.2.2
    · omega
  · exact (HENV.out.grown HGR.out LO.out.2.1 hw).grown (grown_setCell w1 bs 0 _) LO.out.1 (Nat.le_trans hw HGR.out.size)
  · refine HB1.out.grown (grown_setCell w1 bs 0 _) (fun e => ?_)
    have e := Option.some.inj e
    rcases HG.out with rfl | h
    · exact LO.out.2.2 e
    · omega
  · rw [List.length_append, HM.out]
    rcases HF.out with ⟨rfl, rfl, b, rfl, hs⟩ | ⟨rfl, rfl⟩
    · exact .inl ⟨b, ⟨hs.1, by rw [List.length_append]; have := hs.2.1; omega, fun j h1 h2 => ⟨by rw [List.length_append]; have := (hs.2.2 j h1 h2).1; omega, fun hmk => (hs.2.2 j h1 h2).2 ((mark_append (hs.2.2 j h1 h2).1).1 hmk)⟩⟩, RS.out⟩
    · exact .inr ⟨ln, RS.out⟩
end Go.Proofs.YtldlghfjinpnkaaDoor
