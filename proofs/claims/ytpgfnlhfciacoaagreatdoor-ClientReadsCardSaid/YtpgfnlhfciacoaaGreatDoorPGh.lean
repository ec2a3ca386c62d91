import Derived.Test.YtpgfnlhfciacoaaGreatDoorPGg
import Derived.RangeFuncNested
import Derived.RangeFuncBound
import Derived.RangeFuncCalls
import Derived.RangeFuncLeaves
set_option maxRecDepth 100000
set_option maxHeartbeats 4000000
open Go.Lib renaming hid → Hi
namespace Go.Proofs.YtpgfnlhfciacoaaGreatDoor
open Go.RowKit
theorem BRow.typed {g c r : Nat} {w w' : World} {A : Option Addr} {l : List UInt8} {cs : Array Value} {T : TypeId} {fr : Nat × Nat} (h : BRow g w A c l) (hk : w.grownBy w' (some r)) (hr : w.heap[r]? = some (.cells cs T fr)) (hT : T ≠ 5) : BRow g w' A c l := by
 rcases h.lies with ⟨h0, h1⟩ | ⟨off, cs', hA, hh, _, _⟩
 · exact ⟨h.le, h.cap, .inl ⟨h0, h1⟩⟩
 · refine h.grown hk (fun e => ?_)
   obtain rfl := Option.some.inj e
   rw [hh] at hr
   simp only [Option.some.injEq, Obj.cells.injEq] at hr
   exact hT hr.2.1.symm
def NxRes (B bs g : Nat) (R : List UInt8) (k : Nat) (w : World) (x : Int) (v : Value) (b : Bool) (w' : World) : Prop :=
 (∃ f R' k', stepF R k = some (f, R', k') ∧ x = (f.kind : Int) ∧ b = true ∧ FrD (w.heap.size ≤ ·) w' v f.data ∧ Spl B bs g R' k' w' ∧ w.grownBy w' (some bs)) ∨
 (ZK R k = none ∧ x = 0 ∧ v = .slice none 0 0 ∧ b = false ∧ Spl B bs g R k w' ∧ w.grownBy w' (some bs))
theorem NxPost.form {B bs g : Nat} {R : List UInt8} {k : Nat} {w w' : World} {e' : Ending} (h : NxPost B bs g R k w e' w') : ∃ x A m c b, e' = .returned (.tuple #[.agg #[.int .i64 x, .slice A m c], .bool b]) ∧ NxRes B bs g R k w x (.slice A m c) b w' := by
 rcases h with ⟨f, R', k', v, h1, h2, h3, h4, h5⟩ | ⟨h1, h2, h3, h4⟩
 · obtain ⟨A, c, g', rfl, h6, h7⟩ := h3
   exact ⟨_, A, _, c, true, h2, .inl ⟨f, R', k', h1, rfl, rfl, ⟨A, c, g', rfl, h6, h7⟩, h4, h5⟩⟩
 · exact ⟨_, _, _, _, _, h2, .inr ⟨h1, rfl, rfl, rfl, h3, h4⟩⟩
theorem NxRes.post {B bs g : Nat} {R : List UInt8} {k : Nat} {w w' : World} {x : Int} {v : Value} {b : Bool} (h : NxRes B bs g R k w x v b w') : NxPost B bs g R k w (.returned (.tuple #[.agg #[.int .i64 x, v], .bool b])) w' := by
 rcases h with ⟨f, R', k', h1, rfl, rfl, h3, h4, h5⟩ | ⟨h1, rfl, rfl, rfl, h3, h4⟩
 · exact .inl ⟨f, R', k', v, h1, rfl, h3, h4, h5⟩
 · exact .inr ⟨h1, rfl, h3, h4⟩
theorem NxRes.grown {B bs g : Nat} {R : List UInt8} {k : Nat} {w w' : World} {x : Int} {v : Value} {b : Bool} (h : NxRes B bs g R k w x v b w') : w.grownBy w' (some bs) := by
 rcases h with ⟨f, R', k', h1, h2, h3, h4, h5, h6⟩ | ⟨h1, h2, h3, h4, h5, h6⟩ <;> exact h6
theorem Spl.typed {B bs g r k : Nat} {R : List UInt8} {w w' : World} {cs : Array Value} {T : TypeId} {fr : Nat × Nat} (h : Spl B bs g R k w) (hk : w.grownBy w' (some r)) (hr : w.heap[r]? = some (.cells cs T fr)) (hT : T ≠ 5) (hne : bs ≠ r) (hB : B ≤ r) : Spl B bs g R k w' := by
 obtain ⟨lo, hi, env, A, c, hb, st⟩ := h
 refine ⟨lo, Nat.le_trans hi hk.size, env.grown hk hB hi, A, c, hb.typed hk hr hT, ?_⟩
 rcases st with ⟨a, h1, h2⟩ | ⟨ln, h2⟩
 · exact .inl ⟨a, h1, h2.grown hk (fun e => hne (Option.some.inj e))⟩
 · exact .inr ⟨ln, h2.grown hk (fun e => hne (Option.some.inj e))⟩
theorem FrD.typed {P Q : Nat → Prop} {r : Nat} {v : Value} {l : List UInt8} {w w' : World} {cs : Array Value} {T : TypeId} {fr : Nat × Nat} (h : FrD P w v l) (hk : w.grownBy w' (some r)) (hr : w.heap[r]? = some (.cells cs T fr)) (hT : T ≠ 5) (hP : ∀ x, P x → Q x) : FrD Q w' v l := by
 obtain ⟨A, c, g, h1, h2, h3⟩ := h
 exact ⟨A, c, g, h1, h2.typed hk hr hT, hP _ h3⟩
theorem NxRes.later {B bs g r : Nat} {R : List UInt8} {k : Nat} {w W w4 w' : World} {x : Int} {v : Value} {b : Bool} {cs : Array Value} {T : TypeId} {fr : Nat × Nat} (h : NxRes B bs g R k W x v b w4) (hW : w.grownBy W (some bs)) (hk : w4.grownBy w' (some r)) (hr : w4.heap[r]? = some (.cells cs T fr)) (hT : T ≠ 5) (hbs : bs < w.heap.size) (hz : w.heap.size ≤ r) (hw : B ≤ w.heap.size) : NxRes B bs g R k w x v b w' := by
 rcases h with ⟨f, R', k', h1, h2, h3, h4, h5, h6⟩ | ⟨h1, h2, h3, h4, h5, h6⟩
 · exact .inl ⟨f, R', k', h1, h2, h3, h4.typed hk hr hT (fun _ hx => Nat.le_trans hW.size hx), h5.typed hk hr hT (by omega) (by omega), (hW.trans h6).andThen hk (fun j hj => .inl (by injection hj; omega))⟩
 · exact .inr ⟨h1, h2, h3, h4, h5.typed hk hr hT (by omega) (by omega), (hW.trans h6).andThen hk (fun j hj => .inl (by injection hj; omega))⟩
theorem readLit_go (B bs g c : Nat) (A : Option Addr) (R : List UInt8) (k n : Nat) (ln : Int) (hn : R.length = n) (hR : n ≤ 1000000) (w : World) (lo : B ≤ bs ∧ B ≤ g ∧ g ≠ bs) (hw : B ≤ w.heap.size) (henv : EnvB B w) (hb : BRow g w A c R)
 (h : Raw bs A n c ln (k : Int) 0 (stFn 134 bs) w) (hk : k ≤ n) (hsh : ZK R k = none → n ≤ k + 8192) :
 Calls Tryz.prog 134 #[.pointer (some ⟨bs, 0, none⟩)] w (NxPost B bs g R k w) := by
 have hbs := h.lt
 have b0 := YB w (.cells #[.int .i64 0, .slice none 0 0] 62)
 have H1 := Hi (h.grow b0)
 have G0 := Hi (YE (row := some bs) b0)
 have RL := Hi (fun (W : World) (hW : w.grownBy W (some bs)) (hr : Raw bs A n c (k : Int) (k : Int) 0 (stFn 93 bs) W) => readLine_any B bs g c A R k k n hn hR W lo (Nat.le_trans hw hW.size) (henv.grown hW lo.1 hw) (hb.grown hW (fun e => lo.2.2 (Option.some.inj e))) ⟨Nat.le_refl _, by omega, fun j h1 h2 => absurd h1 (by omega)⟩ hr hsh)
 have hw2 : (w.alloc (.cells #[.int .i64 0, .slice none 0 0] 62)).heap[w.heap.size]? = some (.cells #[.int .i64 0, .slice none 0 0] 62 (0, 0)) := YD _ _
 have ht : decide ((n : Int) < (k : Int)) = false := by simp; omega
 have ht2 : decide (n < k) = false := by simp; omega
 have hz : w.heap.size < (w.alloc (.cells #[.int .i64 0, .slice none 0 0] 62)).heap.size := by simp
 clear h hn henv hb lo b0 hsh
 go_enter Tryz.func134, Tryz.ntmps134
 go_wp2_with fail
 generalize w.alloc (.cells #[.int .i64 0, .slice none 0 0] 62) = w1 at *
 have c0 := H1.out.c0
 have c1 := H1.out.c1
 have c2 := H1.out.c2
 have c4 := H1.out.c4
 have f1 := H1.out.fz 1
 have f4 := H1.out.fz 4
 go_quiet (fail)
 go_wp2_with fail
 have R5 := Hi ((H1.out.set1 (k : Int)).set4 (stFn 93 bs))
 have G5 := Hi (YH (YH (World.grownBy.refl w1 (some bs)) 1 (.int .i64 (k : Int))) 4 (stFn 93 bs))
 have RB5 := Hi ((G5.out.block _ hz (fun e => by injection e; omega)).trans hw2)
 have G6 := Hi (fun q => QA (G0.out.trans G5.out) q)
 refine (RL.out _ (G6.out _) (R5.out.drewN _)).mono ?_
 rintro e' w4 hp
 obtain ⟨x, A2, m2, c9, b, he, hq⟩ := hp.form
 clear hp
 subst he
 have hg4 : w1.grownBy w4 (some bs) := World.grownBy.trans (QA G5.out _) (NxRes.grown hq)
 have RB4 := Hi ((hg4.block _ hz (fun e => by injection e; omega)).trans hw2)
 have k0 := cell_of_row _ _ 0 _ _ _ RB4.out
 have k1 := cell_of_row _ _ 1 _ _ _ RB4.out
 have kf0 := Joins.unfrozen_of_block RB4.out 0
 have kf1 := Joins.unfrozen_of_block RB4.out 1
 have HP : Hid (NxRes B bs g R k _ x (.slice A2 m2 c9) b w4) := Hi hq
 clear hq RL R5 G5 RB5 hg4 hw2
 go_wp2_with fail
 refine bodyPost_ret (v := .tuple #[.agg #[.int .i64 x, .slice A2 m2 c9], .bool b]) (by simp [results, Tryz.results134, go_sem, k0, k1]) rfl ?_
 refine (HP.out.later (G6.out _) ?_ RB4.out (by decide) hbs (Nat.le_refl _) hw).post
 repeat (first | exact World.grownBy.refl _ _ | refine YH ?_ _ _ | refine QA ?_ _ | refine QM ?_)
theorem next_any (B bs g : Nat) (R : List UInt8) (k : Nat) (hR : R.length ≤ 1000000) (w : World) (h : Spl B bs g R k w) (hbs : bs < w.heap.size) (hsh : ZK R k = none → R.length ≤ k + 8192) :
 Calls Tryz.prog 94 #[.pointer (some ⟨bs, 0, none⟩)] w (NxPost B bs g R k w) := by
 obtain ⟨lo, hw, henv, A, c, hb, st⟩ := h
 have b0 := YB w (.cells #[.int .i64 0, .slice none 0 0] 62)
 have G0 := Hi (YE (row := some bs) b0)
 have hw2 : (w.alloc (.cells #[.int .i64 0, .slice none 0 0] 62)).heap[w.heap.size]? = some (.cells #[.int .i64 0, .slice none 0 0] 62 (0, 0)) := YD _ _
 have hz : w.heap.size < (w.alloc (.cells #[.int .i64 0, .slice none 0 0] 62)).heap.size := by simp
 rcases st with ⟨a, hs, hr⟩ | ⟨ln, hr⟩
 · have RL := Hi (readLine_any B bs g c A R k a R.length rfl hR _ lo (by simp; omega) (henv.below (b0.mono hw)) (hb.grow b0) hs (hr.grow b0) hsh)
   have c4 := hr.c4
   clear hs hr henv hb lo b0 hsh
   unfold stFn at c4
   go_enter Tryz.func94, Tryz.ntmps94
   go_wp2_with fail
   refine RL.out.mono ?_
   rintro e' w4 hp
   obtain ⟨x, A2, m2, c9, b, he, hq⟩ := hp.form
   clear hp
   subst he
   have hg4 : (w.alloc (.cells #[.int .i64 0, .slice none 0 0] 62)).grownBy w4 (some bs) := NxRes.grown hq
   have RB4 := Hi ((hg4.block _ hz (fun e => by injection e; omega)).trans hw2)
   have k0 := cell_of_row _ _ 0 _ _ _ RB4.out
   have k1 := cell_of_row _ _ 1 _ _ _ RB4.out
   have kf0 := Joins.unfrozen_of_block RB4.out 0
   have kf1 := Joins.unfrozen_of_block RB4.out 1
   have HP : Hid (NxRes B bs g R k _ x (.slice A2 m2 c9) b w4) := Hi hq
   clear hq RL hg4 hw2 hz c4
   go_wp2_with fail
   refine bodyPost_ret (v := .tuple #[.agg #[.int .i64 x, .slice A2 m2 c9], .bool b]) (by simp [results, Tryz.results94, go_sem, k0, k1]) rfl ?_
   refine (HP.out.later G0.out ?_ RB4.out (by decide) hbs (Nat.le_refl _) hw).post
   repeat (first | exact World.grownBy.refl _ _ | refine YH ?_ _ _ | refine QA ?_ _ | refine QM ?_)
 · have RL : Calls Tryz.prog 134 #[.pointer (some ⟨bs, 0, none⟩)] (w.alloc (.cells #[.int .i64 0, .slice none 0 0] 62)) (NxPost B bs g R k (w.alloc (.cells #[.int .i64 0, .slice none 0 0] 62))) := by
    by_cases hk : k ≤ R.length
    · exact readLit_go B bs g c A R k R.length ln rfl hR _ lo (by simp; omega) (henv.below (b0.mono hw)) (hb.grow b0) (hr.grow b0) hk hsh
    · exact readLit_wait B bs g c A R k R.length ln rfl hR _ lo (by simp; omega) (henv.below (b0.mono hw)) (hb.grow b0) (hr.grow b0) (by omega)
   have RL := Hi RL
   have c4 := hr.c4
   clear hr henv hb lo b0 hsh
   unfold stFn at c4
   go_enter Tryz.func94, Tryz.ntmps94
   go_wp2_with fail
   refine RL.out.mono ?_
   rintro e' w4 hp
   obtain ⟨x, A2, m2, c9, b, he, hq⟩ := hp.form
   clear hp
   subst he
   have hg4 : (w.alloc (.cells #[.int .i64 0, .slice none 0 0] 62)).grownBy w4 (some bs) := NxRes.grown hq
   have RB4 := Hi ((hg4.block _ hz (fun e => by injection e; omega)).trans hw2)
   have k0 := cell_of_row _ _ 0 _ _ _ RB4.out
   have k1 := cell_of_row _ _ 1 _ _ _ RB4.out
   have kf0 := Joins.unfrozen_of_block RB4.out 0
   have kf1 := Joins.unfrozen_of_block RB4.out 1
   have HP : Hid (NxRes B bs g R k _ x (.slice A2 m2 c9) b w4) := Hi hq
   clear hq RL hg4 hw2 hz c4
   go_wp2_with fail
   refine bodyPost_ret (v := .tuple #[.agg #[.int .i64 x, .slice A2 m2 c9], .bool b]) (by simp [results, Tryz.results94, go_sem, k0, k1]) rfl ?_
   refine (HP.out.later G0.out ?_ RB4.out (by decide) hbs (Nat.le_refl _) hw).post
   repeat (first | exact World.grownBy.refl _ _ | refine YH ?_ _ _ | refine QA ?_ _ | refine QM ?_)
theorem new_any (B : Nat) (w : World) (hw : B ≤ w.heap.size) (henv : EnvB B w) :
 Calls Tryz.prog 58 #[] w fun e w' => e = .returned (.pointer (some ⟨w.heap.size, 0, none⟩)) ∧ Spl B w.heap.size (w.heap.size + 1) [] 0 w' ∧ Below w.heap.size w w' ∧ w.heap.size < w'.heap.size := by
 have B1 := Hi (YB w (.cells #[.slice none 0 0, .int .i64 0, .int .i64 0, .int .i64 0, stFn 93 w.heap.size] 132))
 have H1 : Hid (Raw w.heap.size none 0 0 0 0 0 (stFn 93 w.heap.size) (w.alloc (.cells #[.slice none 0 0, .int .i64 0, .int .i64 0, .int .i64 0, stFn 93 w.heap.size] 132))) := Hi ⟨YD _ _⟩
 have HENV := Hi henv
 clear henv
 go_enter Tryz.func58, Tryz.ntmps58
 go_wp2_with fail
 go_ret
 refine ⟨rfl, ⟨⟨hw, by omega, by omega⟩, Nat.le_trans hw B1.out.size, HENV.out.below (B1.out.mono hw), none, 0, BRow.nil _ _, .inl ⟨0, ⟨Nat.le_refl _, Nat.le_refl _, fun _ _ hj => absurd hj (Nat.not_lt_zero _)⟩, H1.out⟩⟩, B1.out, H1.out.lt⟩
def FdPost (B bs g : Nat) (R p : List UInt8) (k : Nat) (w : World) (w' : World) : Prop :=
 ∃ g' w1, (g' = g ∨ w.heap.size ≤ g') ∧ Spl B bs g' (R ++ p) k w' ∧ w.grownBy w1 (some g) ∧ w1.grownBy w' (some bs)
theorem feed_any (B bs g : Nat) (R : List UInt8) (k : Nat) (p : List UInt8) (m : Nat) (hm : p.length = m) (hR : R.length + m ≤ 1000000) (w : World) (h : Spl B bs g R k w) (hbs : bs < w.heap.size) (D c2 : Nat) (A2 : Option Addr) (hp : ByAt D w A2 c2 p) :
 Calls Tryz.prog 59 #[.pointer (some ⟨bs, 0, none⟩), .slice A2 m c2] w fun e w' => e = .returned (.tuple #[]) ∧ FdPost B bs g R p k w w' := by
 obtain ⟨lo, hw, henv, A, c, hb, st⟩ := h
 obtain ⟨A', c', w1, g', hr, hg, hb1, hgr⟩ := append_brow w 24 g A c R.length R hb rfl D A2 c2 m p hp hm (by omega)
 have hX : ∃ ln a : Int, ∃ fn, Raw bs A R.length c ln a 0 fn w ∧ ((fn = stFn 93 bs ∧ ln = (k : Int) ∧ ∃ b : Nat, a = (b : Int) ∧ Scan R k b) ∨ (fn = stFn 134 bs ∧ a = (k : Int))) := by
  rcases st with ⟨a, h1, h2⟩ | ⟨ln, h2⟩
  · exact ⟨_, _, _, h2, .inl ⟨rfl, rfl, a, rfl, h1⟩⟩
  · exact ⟨_, _, _, h2, .inr ⟨rfl, rfl⟩⟩
 clear st
 obtain ⟨ln, a, fn, hraw, HF⟩ := hX
 have HF := Hi HF
 have R1 := Hi (hraw.grown hgr (fun e => lo.2.2 (Option.some.inj e).symm))
 have c0 := hraw.c0
 have RS := Hi (R1.out.set0 A' (R.length + m) c')
 have HG := Hi hg
 have HB1 := Hi hb1
 have HGR := Hi hgr
 have HR := Hi hr
 have HENV := Hi henv
 have LO := Hi lo
 have HM := Hi hm
 have d0 := R1.out.c0
 have f0 := R1.out.fz 0
 clear hr hg hb1 hgr hraw henv lo hb hp hm
 go_enter Tryz.func59, Tryz.ntmps59
 go_wp2_with (at_builtin; refine Lib.wpList_append_run_sl _ rfl _ _ 24 rfl _ _ rfl rfl HR.out ?_)
 go_end0
 refine ⟨rfl, g', w1, HG.out, ⟨⟨LO.out.1, ?_, ?_⟩, Nat.le_trans hw (Nat.le_trans HGR.out.size (ZG w1 bs 0 _).size), ?_, A', c', ?_, ?_⟩, HGR.out, ZG w1 bs 0 _⟩
 · rcases HG.out with rfl | h
   · exact LO.out.2.1
   · omega
 · rcases HG.out with rfl | h
   · exact LO.out.2.2
   · omega
 · exact (HENV.out.grown HGR.out LO.out.2.1 hw).grown (ZG w1 bs 0 _) LO.out.1 (Nat.le_trans hw HGR.out.size)
 · refine HB1.out.grown (ZG w1 bs 0 _) (fun e => ?_)
   have e := Option.some.inj e
   rcases HG.out with rfl | h
   · exact LO.out.2.2 e
   · omega
 · rw [List.length_append, HM.out]
   rcases HF.out with ⟨rfl, rfl, b, rfl, hs⟩ | ⟨rfl, rfl⟩
   · exact .inl ⟨b, ⟨hs.1, by rw [List.length_append]; have := hs.2.1; omega, fun j h1 h2 => ⟨by rw [List.length_append]; have := (hs.2.2 j h1 h2).1; omega, fun hmk => (hs.2.2 j h1 h2).2 ((mark_append (hs.2.2 j h1 h2).1).1 hmk)⟩⟩, RS.out⟩
   · exact .inr ⟨ln, RS.out⟩
def enc2 (p : Int × Value) : List Value := [.int .i64 p.1, p.2]
theorem enc2_len (p : Int × Value) : (enc2 p).length = 2 := rfl
inductive QK (P : Nat → Prop) (w : World) : List (Int × Value) → List Fr → Prop
 | nil : QK P w [] []
 | cons {f : Fr} {v : Value} {vs : List (Int × Value)} {fs : List Fr} : FrD P w v f.data → QK P w vs fs → QK P w (((f.kind : Int), v) :: vs) (f :: fs)
section
variable {P Q : Nat → Prop} {w w' : World} {vs us : List (Int × Value)} {fs gs : List Fr}
theorem QK.len (h : QK P w vs fs) : vs.length = fs.length := by
 induction h with
 | nil => rfl
 | cons _ _ ih => simp [ih]
theorem QK.append (h : QK P w vs fs) (h2 : QK P w us gs) : QK P w (vs ++ us) (fs ++ gs) := by
 induction h with
 | nil => exact h2
 | cons hd _ ih => exact .cons hd ih
theorem QK.one {f : Fr} {v : Value} (h : FrD P w v f.data) : QK P w [((f.kind : Int), v)] [f] := .cons h .nil
theorem QK.map (h : QK P w vs fs) (hd : ∀ v l, FrD P w v l → FrD Q w' v l) : QK Q w' vs fs := by
 induction h with
 | nil => exact .nil
 | cons h1 _ ih => exact .cons (hd _ _ h1) ih
theorem QK.at (h : QK P w vs fs) (i : Nat) (hi : i < vs.length) (hi2 : i < fs.length) : vs[i].1 = (fs[i].kind : Int) ∧ FrD P w vs[i].2 fs[i].data := by
 induction h generalizing i with
 | nil => simp at hi
 | cons hd _ ih =>
   cases i with
   | zero => exact ⟨rfl, hd⟩
   | succ i => exact ih i (by simpa using hi) (by simpa using hi2)
theorem flatL_cons2 (p : Int × Value) (l : List (Int × Value)) : YF enc2 (p :: l) = enc2 p ++ YF enc2 l := rfl
theorem one_flat2 (h : QK P w vs fs) : ∀ u ∈ YF enc2 vs, u.oneCell' = true := by
 induction h with
 | nil => intro u hu; simp [YF] at hu
 | cons hd _ ih =>
   intro u hu
   obtain ⟨A, c, g, rfl, _, _⟩ := hd
   rw [flatL_cons2] at hu
   rcases List.mem_append.1 hu with h | h
   · simp [enc2] at h
     rcases h with rfl | rfl <;> rfl
   · exact ih u h
theorem BRow.keeps {g c : Nat} {A : Option Addr} {l : List UInt8} (h : BRow g w A c l) (hk : YR 5 w w') : BRow g w' A c l := by
 rcases h.lies with ⟨h0, h1⟩ | ⟨off, cs, hA, hh, hs, hc⟩
 · exact ⟨h.le, h.cap, .inl ⟨h0, h1⟩⟩
 · exact h.kept fun _ => (hk.2 _ _ _ hh).trans hh.symm
theorem FrD.keeps {v : Value} {l : List UInt8} (h : FrD P w v l) (hk : YR 5 w w') : FrD P w' v l := by
 obtain ⟨A, c, g, h1, h2, h3⟩ := h
 exact ⟨A, c, g, h1, h2.keeps hk, h3⟩
theorem FrD.imp {v : Value} {l : List UInt8} (h : FrD P w v l) (hP : ∀ x, P x → Q x) : FrD Q w v l := by
 obtain ⟨A, c, g, h1, h2, h3⟩ := h
 exact ⟨A, c, g, h1, h2, hP _ h3⟩
theorem QK.keeps (h : QK P w vs fs) (hk : YR 5 w w') : QK P w' vs fs := h.map fun _ _ hd => hd.keeps hk
theorem QK.imp (h : QK P w vs fs) (hP : ∀ x, P x → Q x) : QK Q w vs fs := h.map fun _ _ hd => hd.imp hP
theorem keeps_below {T : TypeId} (h : Below w.heap.size w w') : YR T w w' := ⟨h.size, fun i _ _ hi => (h.block i (Array.getElem?_eq_some_iff.1 hi).1).trans hi⟩
theorem keeps_row {T e : TypeId} {base size n : Nat} {v : Value} {xs : List Value} (hrow : w.ownsRow base e size v n xs) (hT : e ≠ T) (hg : w.grownBy w' v.ownBlock) : YR T w w' := YR.own_app hrow hT hg
theorem keeps_grown {T U : TypeId} {r : Nat} {cs : Array Value} {fr : Nat × Nat} (hg : w.grownBy w' (some r)) (hr : w.heap[r]? = some (.cells cs U fr)) (hT : U ≠ T) : YR T w w' :=
 YR.grown hg fun r' e cs' fr' h => by
  obtain rfl := Option.some.inj e
  rw [hr] at h
  simp only [Option.some.injEq, Obj.cells.injEq] at h
  exact hT h.2.1
theorem slAt_one2 (w : World) (x : Int) (v : Value) (T : TypeId) : SlAt enc2 2 (w.alloc (.cells #[.int .i64 x, v] T)) (some ⟨w.heap.size, 0, none⟩) [(x, v)] := by
 refine .inr ⟨w.heap.size, 0, rfl, by simp, fun j y hj i u hi => ?_⟩
 have hj0 : j = 0 := by
  have := (List.getElem?_eq_some_iff.1 hj).1
  simpa using this
 subst hj0
 obtain rfl : (x, v) = y := by simpa using hj
 rw [Joins.cell_alloc_mark_at w _ _ _ _ _ rfl]
 match i, hi with
 | 0, hi => simpa [enc2] using hi
 | 1, hi => simpa [enc2] using hi
end
structure FsAt (w : World) (A : Option Addr) (vs : List (Int × Value)) (fs : List Fr) : Prop where
 sl : SlAt enc2 2 w A vs
 frs : QK (fun _ => True) w vs fs
theorem FsAt.below {w w' : World} {A : Option Addr} {vs : List (Int × Value)} {fs : List Fr} (h : FsAt w A vs fs) (hb : Below w.heap.size w w') : FsAt w' A vs fs := ⟨h.sl.below hb, h.frs.keeps (keeps_below hb)⟩
theorem FsAt.of_own {w : World} {base n c : Nat} {T : TypeId} {A : Option Addr} {vs : List (Int × Value)} {fs : List Fr} (h : w.ownsRow base T 2 (.slice A n c) fs.length (YF enc2 vs)) (hf : QK (fun _ => True) w vs fs) : FsAt w A vs fs := by
 have hl := hf.len
 exact ⟨SlAt.of_own enc2_len (n := n) (c := c) (hl.symm ▸ h), hf⟩
theorem FsAt.at {w : World} {A : Option Addr} {vs : List (Int × Value)} {fs : List Fr} (h : FsAt w A vs fs) {j : Nat} (hj : j < fs.length) :
 ∃ b off Ad cd, A = some ⟨b, off, none⟩ ∧ b < w.heap.size ∧ w.cell? ⟨b, off + j * 2, none⟩ = some (.int .i64 (fs[j].kind : Int)) ∧ w.cell? ⟨b, off + j * 2 + 1, none⟩ = some (.slice Ad fs[j].data.length cd) ∧ ByAt w.heap.size w Ad cd fs[j].data := by
 have hl := h.frs.len
 have hj2 : j < vs.length := by omega
 obtain ⟨b, off, hA, hb, hc⟩ := h.sl.at_ hj2
 obtain ⟨e1, Ad, cd, g, e2, e3, _⟩ := h.frs.at j hj2 hj
 refine ⟨b, off, Ad, cd, hA, hb, ?_, ?_, e3.by⟩
 · rw [← e1]
   exact hc 0 _ rfl
 · have := hc 1 _ rfl
   rw [this, e2]
def RsPost (T : TypeId) (l : List UInt8) (w : World) (e' : Ending) (w' : World) : Prop :=
 ∃ v vs fs R k, e' = .returned (.tuple #[v, .int .i64 ((R.length : Nat) : Int)]) ∧ w'.ownsRow w.heap.size T 2 v fs.length (YF enc2 vs) ∧ QK (fun _ => True) w' vs fs ∧ Below w.heap.size w w' ∧ Runs l 0 fs R k ∧ Done R k
theorem frs_count2 {l R : List UInt8} {k : Nat} {fs : List Fr} (h : Runs l 0 fs R k) (hl : l.length ≤ 1000000) : fs.length ≤ 500000 := by
 have := h.len.1
 omega
section
def SeqDoesB {α : Type} (F : Fence) (n : Nat) (P : Program) (g : Nat) (ra : Array Value) (Bx : World → Prop) (encs : α → Array Value) (Gd : α → World → Prop) (Kp It : World → World → Prop) (S : List α → World → Prop) (Sp : List α → Prop) (N : Nat) (w : World) : Prop :=
 ∀ (l : Nat) (J Jx : List α → World → Prop) (W : World), Below w.heap.size w W → (∀ s A B, J s A → It A B → J s B) → (∀ s A, J s A → Bx A) →
  (∀ pre x W1, J pre W1 → Gd x W1 → pre.length < N → YieldAt F (n - 1) P l (encs x) W1 fun e W' =>
   (e = .returned (.bool true) ∧ J (pre ++ [x]) W' ∧ Kp W1 W') ∨ (e = .returned (.bool false) ∧ Jx (pre ++ [x]) W')) →
  J [] W →
  CallsIn F n P g ((ra ++ #[.func (.yield l) #[] #[]]) ++ #[]) W fun e W' => (∃ v, e = .returned v) ∧ ((∃ xs, S xs W' ∧ J xs W') ∨ (∃ pre, Sp pre ∧ Jx pre W'))
variable {F : Fence} {n : Nat} {P : Program}
theorem wpIn_rangeFunc_bound {α : Type} {g : Operand} {ps : Array Tmp} {assign body : Code} {Q : Exit → Act → World → Prop} {a : Act} {w : World}
 (hro : F.round = none) (h1 : 1 ≤ n) {gf : Nat} {ra : Array Value} {Bx : World → Prop} (hg : a.eval g = .func (.func gf) ra #[]) (hFg : F.fn gf) (eg : ∀ args w, (callFunc gf args).run P w = .ok (.enter gf args) w)
 {encs : α → Array Value} {Gd : α → World → Prop} {Kp It : World → World → Prop} {S : List α → World → Prop} {Sp : List α → Prop} {N : Nat} {w0 : World} (hseq : SeqDoesB F (n - 1) P gf ra Bx encs Gd Kp It S Sp N w0)
 (hGd : ∀ x (W : World) (l : Nat) (o o' : Obj), W.heap[l]? = some o → o.isCells = false → Gd x W → Gd x (W.putObj l o')) (hS : ∀ xs (W : World) (l : Nat) (o o' : Obj), w.heap.size ≤ l → W.heap[l]? = some o → o.isCells = false → S xs W → S xs (W.putObj l o'))
 (hKl : ∀ (A B : World) (l : Nat) (o o' : Obj), w.heap.size ≤ l → A.heap[l]? = some o → o.isCells = false → o'.isCells = false → Kp (A.putObj l o') B → Kp A B) (hKr : ∀ (A B : World) (l : Nat) (o o' : Obj), w.heap.size ≤ l → B.heap[l]? = some o → o.isCells = false → Kp A B → Kp A (B.putObj l o'))
 (hIt : ∀ (A B : World) (i : Nat) (o : Obj), It A B → A.heap[i]? = some o → o.isCells = false → B.heap[i]? = some o)
 (hb0 : Below w0.heap.size w0 w) (hps : ∀ x, (encs x).size = ps.size)
 (I : List α → World → Prop) (Ix : Code → List α → World → Prop) (hI : OwnFrom w.heap.size I) (hIx : ∀ c, OwnFrom w.heap.size (Ix c)) (hIi : ∀ s A B, I s A → It A B → I s B) (hIB : ∀ s A, I s A → Bx A) (h0 : I [] w) (a₁ : α → World → Act) (oB : α → Obj) (hGa : ∀ x (W : World) (o : Obj), Gd x W → Gd x (W.alloc o)) (hKa : ∀ x (A B : World), w.heap.size ≤ A.heap.size → Kp (A.alloc (oB x)) B → Kp A B)
 (hassign : ∀ (l : Nat) (x : α) (W : World) (K : Act → World → Prop), K (a₁ x W) (W.alloc (oB x)) →
  assign.wpIn (F.inRound l) (n - 1 - 1) P (Exit.then K (fun _ _ _ => False)) { tmps := (ps.zip (encs x)).foldl (fun t (p, v) => t.setIfInBounds p v) a.tmps, defers := [] } W)
 (hbody : ∀ (l : Nat) (pre : List α) (x : α) (W0 W : World), I pre W → Gd x W → w.heap.size ≤ W0.heap.size → W.heap[W0.heap.size]? = some (oB x) → pre.length < N → body.wpIn (F.inRound l) (n - 1 - 1) P (ownPostG w.heap.size Kp I Ix (pre ++ [x]) W) (a₁ x W0) W)
 (hdone : ∀ (D : Nat) (xs : List α) (W : World), w.heap.size ≤ D → S xs W → I xs W → W.heap[D]? = some (.deferred (some [])) → Q .normal { a with defers := { target := .collected D, args := #[] } :: a.defers } W)
 (hstop : ∀ (D : Nat) (c : Code) (pre : List α) (W : World), w.heap.size ≤ D → Sp pre → Ix c pre W → W.heap[D]? = some (.deferred (some [])) → c.wpIn F n P Q { a with defers := { target := .collected D, args := #[] } :: a.defers } W) :
 (Code.rangeFunc g ps assign body).wpIn F n P Q a w := by
 refine wpIn_rangeFunc ?_
 intro fn hfn
 rw [hro]
 obtain ⟨rec, hrec⟩ : ∃ rec : LoopState → Option Code → Loop, rec = fun st pe => { state := st, pending := pe, fn, tmps := a.tmps, params := ps, assign, body, defers := w.heap.size } := ⟨_, rfl⟩
 obtain ⟨W1, hW1⟩ : ∃ W1, (w.alloc (.deferred (some []))).alloc (.loop (rec .ready none)) = W1 := ⟨_, rfl⟩
 have hL1 : W1.heap[w.heap.size + 1]? = some (.loop (rec .ready none)) := by
  have := World.alloc_heap_new (w.alloc (.deferred (some []))) (.loop (rec .ready none))
  rw [World.size_alloc] at this
  rw [← hW1]; exact this
 have hK1 : W1.heap[w.heap.size]? = some (.deferred (some [])) := by
  rw [← hW1]; exact (Below.heap_alloc _ _ _ (by simp)).trans (World.alloc_heap_new w _)
 have hI1 : I [] W1 := by rw [← hW1]; exact hI.alloc _ (hI.alloc _ h0)
 have hb1 : Below w0.heap.size w0 W1 := by
  rw [← hW1]; exact hb0.trans ((((Below.refl _ w).alloc (Nat.le_refl _) _).alloc (by simp) _).mono hb0.size)
 refine ⟨w.heap.size + 1, [{ target := .collected w.heap.size, args := #[] }], W1, { target := .fn (.func gf) #[], args := ra ++ #[.func (.yield (w.heap.size + 1)) #[] #[]] }, W1, gf,
  (ra ++ #[.func (.yield (w.heap.size + 1)) #[] #[]]) ++ #[], W1, ?_, ?_, ?_, ?_, fun _ => h1, ?_⟩
 · rw [← hW1, hrec]; exact run_enterLoop_outer _ _ _ _ _
 · simp only [resolve, hg]
   simp [go_sem]
 · intro f' hf'; simp [Target.leads] at hf'; subst hf'; exact hFg
 · simp [invoke, go_sem, eg]
 · refine (hseq (w.heap.size + 1)
    (fun pre W => I pre W ∧ W.heap[w.heap.size + 1]? = some (.loop (rec .ready none)) ∧ W.heap[w.heap.size]? = some (.deferred (some [])))
    (fun pre W => ∃ c, Ix c pre W ∧ W.heap[w.heap.size + 1]? = some (.loop (rec .done (some c))) ∧ W.heap[w.heap.size]? = some (.deferred (some [])))
    W1 hb1
    (fun s A B hs hi => ⟨hIi s A B hs.1 hi, hIt A B _ _ hi hs.2.1 rfl, hIt A B _ _ hi hs.2.2 rfl⟩)
    (fun s A hs => hIB s A hs.1)
    ?_ ⟨hI1, hL1, hK1⟩).mono ?_
   · rintro pre x W ⟨hi, hl, hk⟩ hgd hlen
     have hlt : w.heap.size + 1 < W.heap.size := (Array.getElem?_eq_some_iff.1 hl).1
     have hy := run_yield (P := P) (args := encs x) hl (by rw [hrec]; exact hps x)
     rw [hrec] at hy
     have hla : (W.alloc (oB x)).heap[w.heap.size + 1]? = some (.loop (rec .ready none)) := (Below.heap_alloc _ _ _ (by omega)).trans hl
     have hka : (W.alloc (oB x)).heap[w.heap.size]? = some (.deferred (some [])) := (Below.heap_alloc _ _ _ (by omega)).trans hk
     refine ⟨fn, _, assign, body, hy, roundIn_of_wpIn hfn (hassign _ x W _ ⟨_, run_beginRound hla (by rw [hrec]), ?_⟩)⟩
     obtain ⟨Wb, hWb⟩ : ∃ Wb, (W.alloc (oB x)).putObj (w.heap.size + 1) (.loop { rec .ready none with state := .busy }) = Wb := ⟨_, rfl⟩
     have hl2 : Wb.heap[w.heap.size + 1]? = some (.loop { rec .ready none with state := .busy }) := by rw [← hWb]; exact World.putObj_heap_same (by simp; omega)
     have hk2 : Wb.heap[w.heap.size]? = some (.deferred (some [])) := by rw [← hWb]; exact (World.putObj_heap_other (by omega)).trans hka
     have hob : Wb.heap[W.heap.size]? = some (oB x) := by rw [← hWb]; exact (World.putObj_heap_other (by omega)).trans (World.alloc_heap_new W _)
     have hw2 : ∀ B, Kp Wb B → Kp W B := fun B h => by rw [← hWb] at h; exact hKa x _ _ (by omega) (hKl _ _ _ _ _ (by omega) hla rfl rfl h)
     have hib : I pre Wb := by rw [← hWb]; exact hI.putObj _ (hI.alloc _ hi) (by omega) hla rfl
     show body.wpIn _ _ _ _ _ ((W.alloc (oB x)).putObj (w.heap.size + 1) (.loop { rec .ready none with state := .busy }))
     rw [hWb]
     have hgb : Gd x Wb := by rw [← hWb]; exact hGd _ _ _ _ _ hla rfl (hGa _ _ _ hgd)
     refine wpIn_mono (hbody _ pre x W _ hib hgb (by omega) hob hlen) ?_
     have fin : ∀ (jump : Option Code) (W3 : World), KeepsFrom w.heap.size Wb W3 →
      (Instr.endRound (w.heap.size + 1) jump).run P W3 = .ok (.bool jump.isNone) (W3.putObj (w.heap.size + 1) (.loop (rec (if jump.isNone then .ready else .done) jump))) ∧
      W3.heap[w.heap.size + 1]? = some (.loop { rec .ready none with state := .busy }) ∧
      (W3.putObj (w.heap.size + 1) (.loop (rec (if jump.isNone then .ready else .done) jump))).heap[w.heap.size + 1]? = some (.loop (rec (if jump.isNone then .ready else .done) jump)) ∧
      (W3.putObj (w.heap.size + 1) (.loop (rec (if jump.isNone then .ready else .done) jump))).heap[w.heap.size]? = some (.deferred (some [])) := fun jump W3 hk3 => by
      have hl3 := hk3.same _ _ (by omega) hl2 rfl
      have := run_endRound (P := P) jump hl3
      rw [hrec] at this ⊢
      exact ⟨this, by rw [hrec] at hl3; exact hl3, World.putObj_heap_same (Array.getElem?_eq_some_iff.1 hl3).1, (World.putObj_heap_other (by omega)).trans (hk3.same _ _ (Nat.le_refl _) hk2 rfl)⟩
     rintro e a3 W3 hp
     cases e with
     | normal =>
       obtain ⟨hk3, hkp3, hi3⟩ := hp
       obtain ⟨hr, hl3, hl4, hk4⟩ := fin none W3 hk3
       exact ⟨_, _, hr, .inl ⟨rfl, ⟨hI.putObj _ hi3 (by omega) hl3 rfl, hl4, hk4⟩, hKr _ _ _ _ _ (by omega) hl3 rfl (hw2 _ hkp3)⟩⟩
     | ret =>
       obtain ⟨hk3, hi3⟩ := hp
       obtain ⟨hr, hl3, hl4, hk4⟩ := fin (some .ret) W3 hk3
       exact ⟨_, _, hr, .inr ⟨rfl, .ret, (hIx _).putObj _ hi3 (by omega) hl3 rfl, hl4, hk4⟩⟩
     | exit id =>
       obtain ⟨hk3, hi3⟩ := hp
       obtain ⟨hr, hl3, hl4, hk4⟩ := fin (some (.exit id)) W3 hk3
       exact ⟨_, _, hr, .inr ⟨rfl, .exit id, (hIx _).putObj _ hi3 (by omega) hl3 rfl, hl4, hk4⟩⟩
     | goto t =>
       obtain ⟨hk3, hi3⟩ := hp
       obtain ⟨hr, hl3, hl4, hk4⟩ := fin (some (.goto t)) W3 hk3
       exact ⟨_, _, hr, .inr ⟨rfl, .goto t, (hIx _).putObj _ hi3 (by omega) hl3 rfl, hl4, hk4⟩⟩
     | panic ch => exact hp.elim
     | outgrown => exact hp.elim
   · rintro e W2 ⟨⟨v, rfl⟩, (⟨xs, hSx, hi, hl, hk⟩ | ⟨pre, hSp, c, hi, hl, hk⟩)⟩
     · exact ⟨none, _, by have := run_endLoop (P := P) hl (by rw [hrec]; simp); rw [hrec] at this; exact this, hdone _ xs _ (Nat.le_refl _) (hS _ _ _ _ _ (by omega) hl rfl hSx) (hI.putObj _ hi (by omega) hl rfl) ((World.putObj_heap_other (by omega)).trans hk)⟩
     · exact ⟨some c, _, by have := run_endLoop (P := P) hl (by rw [hrec]; simp); rw [hrec] at this; exact this, hstop _ c pre _ (Nat.le_refl _) hSp ((hIx c).putObj _ hi (by omega) hl rfl) ((World.putObj_heap_other (by omega)).trans hk)⟩
end
theorem EnvB.same {B : Nat} {w w' : World} (h : EnvB B w) (hb : ∀ k, k < B → w'.heap[k]? = w.heap[k]?) : EnvB B w' := by
 have hs : Below B w { w with heap := w'.heap } ∨ True := .inr trivial
 obtain ⟨⟨t, ⟨a, p, s⟩, ⟨b, q, r⟩⟩, ⟨m, hm⟩, l1, l2, l3, l4⟩ := h
 have hv : ∀ (n : String) (g : Nat) (cs : Array Value), Tryz.prog.globalNamed n = some g → g < B → w.var? Tryz.prog n = some cs → w'.var? Tryz.prog n = some cs := fun n g cs hg hgB hv => by
  unfold World.var? at hv ⊢
  simp only [hg, Option.bind_some] at hv ⊢
  rw [hb g hgB]
  exact hv
 exact ⟨⟨hv _ _ _ globTab l1 t, ⟨a, p, hv _ _ _ globSyn l2 s⟩, ⟨b, q, hv _ _ _ globRng l3 r⟩⟩, ⟨m, (World.cell?_of_block (a := ⟨0, 0, none⟩) (hb _ l4)).trans hm⟩, l1, l2, l3, l4⟩
structure FV where
 f : Fr
 A : Option Addr
 c : Nat
def FV.v (x : FV) : Value := .slice x.A x.f.data.length x.c
def encF (x : FV) : Array Value := #[.agg #[.int .i64 (x.f.kind : Int), .slice x.A x.f.data.length x.c]]
def GdF (x : FV) (W : World) : Prop := ∃ g, BRow g W x.A x.c x.f.data
def BxF (lb n0 : Nat) (W : World) : Prop := ∃ v n xs, Boxed W lb 51 v ∧ W.ownsRow n0 62 2 v n xs
def ItF (bs : Nat) (A B : World) : Prop := A.grownBy B (some bs) ∧ ∃ cs fr, A.heap[bs]? = some (.cells cs 132 fr)
def KpF (B0 lb : Nat) (A B : World) : Prop :=
 A.heap.size ≤ B.heap.size ∧ (∀ k, k < B0 → B.heap[k]? = A.heap[k]?) ∧
  ∀ i cs T fr, A.heap[i]? = some (.cells cs T fr) → i ≠ lb → (∀ v, Boxed A lb 51 v → v.ownBlock ≠ some i) → B.heap[i]? = some (.cells cs T fr)
theorem putObj_other {W : World} {l i : Nat} {o' : Obj} (h : i ≠ l) : (W.putObj l o').heap[i]? = W.heap[i]? := World.putObj_heap_other h
theorem size_putObj (W : World) (l : Nat) (o : Obj) : (W.putObj l o).heap.size = W.heap.size := by simp [World.putObj]
theorem cells_ne {W : World} {l i : Nat} {o : Obj} {cs : Array Value} {T : TypeId} {fr : Nat × Nat} (hl : W.heap[l]? = some o) (ho : o.isCells = false) (hi : W.heap[i]? = some (.cells cs T fr)) : i ≠ l := by
 rintro rfl
 rw [hl] at hi
 cases hi
 simp [Obj.isCells] at ho
theorem boxed_put {W : World} {lb l : Nat} {o o' : Obj} {T : TypeId} {v : Value} (hl : W.heap[l]? = some o) (ho' : o'.isCells = false) (h : Boxed (W.putObj l o') lb T v) : Boxed W lb T v := by
 have hne : lb ≠ l := by
  rintro rfl
  have h1 : (W.putObj lb o').heap[lb]? = some o' := World.putObj_heap_same (Array.getElem?_eq_some_iff.1 hl).1
  rw [show (W.putObj lb o').heap[lb]? = _ from h] at h1
  cases h1
  simp [Obj.isCells] at ho'
 exact (putObj_other hne).symm.trans h
theorem kpF_l {B0 lb : Nat} {A B : World} {l : Nat} {o o' : Obj} (hB : B0 ≤ l) (hl : A.heap[l]? = some o) (ho : o.isCells = false) (ho' : o'.isCells = false) (h : KpF B0 lb (A.putObj l o') B) : KpF B0 lb A B := by
 obtain ⟨h1, h2, h3⟩ := h
 refine ⟨by rw [size_putObj] at h1; exact h1, fun k hk => (h2 k hk).trans (putObj_other (by omega)), fun i cs T fr hi hne hv => h3 i cs T fr ((putObj_other (cells_ne hl ho hi)).trans hi) hne (fun v hb => hv v (boxed_put hl ho' hb))⟩
theorem kpF_r {B0 lb : Nat} {A B : World} {l : Nat} {o o' : Obj} (hB : B0 ≤ l) (hl : B.heap[l]? = some o) (ho : o.isCells = false) (h : KpF B0 lb A B) : KpF B0 lb A (B.putObj l o') := by
 obtain ⟨h1, h2, h3⟩ := h
 refine ⟨by rw [size_putObj]; exact h1, fun k hk => (putObj_other (by omega)).trans (h2 k hk), fun i cs T fr hi hne hv => ?_⟩
 have := h3 i cs T fr hi hne hv
 exact (putObj_other (cells_ne hl ho this)).trans this
theorem BRow.put {g c : Nat} {W : World} {A : Option Addr} {d : List UInt8} {l : Nat} {o o' : Obj} (hl : W.heap[l]? = some o) (ho : o.isCells = false) (h : BRow g W A c d) : BRow g (W.putObj l o') A c d := by
 rcases h.lies with ⟨h0, h1⟩ | ⟨off, cs, hA, hh, hs, hc⟩
 · exact ⟨h.le, h.cap, .inl ⟨h0, h1⟩⟩
 · exact h.kept fun _ => putObj_other (cells_ne hl ho hh)
theorem Spl.put {B bs g k : Nat} {R : List UInt8} {W : World} {l : Nat} {o o' : Obj} (hB : B ≤ l) (hl : W.heap[l]? = some o) (ho : o.isCells = false) (h : Spl B bs g R k W) : Spl B bs g R k (W.putObj l o') := by
 obtain ⟨lo, hi, env, A, c, hb, st⟩ := h
 refine ⟨lo, by rw [size_putObj]; exact hi, env.same (fun k hk => putObj_other (by omega)), A, c, hb.put hl ho, ?_⟩
 rcases st with ⟨a, h1, h2⟩ | ⟨ln, h2⟩
 · exact .inl ⟨a, h1, ⟨(putObj_other (cells_ne hl ho h2.blk)).trans h2.blk⟩⟩
 · exact .inr ⟨ln, ⟨(putObj_other (cells_ne hl ho h2.blk)).trans h2.blk⟩⟩
theorem bx_ne {lb n0 : Nat} {A : World} {i : Nat} {cs : Array Value} {T : TypeId} {fr : Nat × Nat} (hx : BxF lb n0 A) (hi : A.heap[i]? = some (.cells cs T fr)) (hT : T ≠ 51) (hT2 : T ≠ 62) : i ≠ lb ∧ ∀ v, Boxed A lb 51 v → v.ownBlock ≠ some i := by
 obtain ⟨v0, n, xs, h1, h2⟩ := hx
 refine ⟨?_, fun v hv e => ?_⟩
 · rintro rfl
   have := (show A.heap[i]? = _ from h1).symm.trans hi
   simp at this
   exact hT this.2.1.symm
 · have hvv : v0 = v := by
    have := (show A.heap[lb]? = _ from h1).symm.trans hv
    simp at this
    exact this
   subst hvv
   rcases h2.2 with ⟨rfl, _⟩ | ⟨g, cap, cur, rfl, _, hgb, _⟩
   · simp [Value.ownBlock] at e
   · obtain rfl : g = i := by simpa [Value.ownBlock] using e
     rw [hgb] at hi
     simp at hi
     exact hT2 hi.2.1.symm
theorem Spl.kp {B bs g k lb n0 : Nat} {R : List UInt8} {A B' : World} (h : Spl B bs g R k A) (hx : BxF lb n0 A) (hk : KpF B lb A B') : Spl B bs g R k B' := by
 obtain ⟨lo, hi, env, A0, c, hb, st⟩ := h
 have rk : ∀ {n c' ln a dr fn}, Raw bs A0 n c' ln a dr fn A → Raw bs A0 n c' ln a dr fn B' := fun hr => ⟨hk.2.2 _ _ _ _ hr.blk (bx_ne hx hr.blk (by decide) (by decide)).1 (bx_ne hx hr.blk (by decide) (by decide)).2⟩
 refine ⟨lo, Nat.le_trans hi hk.1, env.same hk.2.1, A0, c, ?_, ?_⟩
 · rcases hb.lies with ⟨h0, h1⟩ | ⟨off, cs, hA, hh, hs, hc⟩
   · exact ⟨hb.le, hb.cap, .inl ⟨h0, h1⟩⟩
   · exact hb.kept fun _ => (hk.2.2 _ _ _ _ hh (bx_ne hx hh (by decide) (by decide)).1 (bx_ne hx hh (by decide) (by decide)).2).trans hh.symm
 · rcases st with ⟨a, h1, h2⟩ | ⟨ln, h2⟩
   · exact .inl ⟨a, h1, rk h2⟩
   · exact .inr ⟨ln, rk h2⟩
theorem fn_ne {bs : Nat} : stFn 93 bs ≠ stFn 134 bs := by
 intro h
 simp [stFn] at h
theorem Spl.uniq {B bs g k k2 : Nat} {R R2 : List UInt8} {w : World} (h : Spl B bs g R k w) (h2 : Spl B bs g R2 k2 w) : R = R2 ∧ k = k2 := by
 obtain ⟨_, _, _, A, c, hb, st⟩ := h
 obtain ⟨_, _, _, A2, c2, hb2, st2⟩ := h2
 have key : A = A2 ∧ R.length = R2.length ∧ k = k2 := by
  rcases st with ⟨a, _, h1⟩ | ⟨ln, h1⟩ <;> rcases st2 with ⟨a2, _, h3⟩ | ⟨ln2, h3⟩
  all_goals
   have e := h1.blk.symm.trans h3.blk
   simp only [Option.some.injEq, Obj.cells.injEq, Array.mk.injEq, List.cons.injEq, Value.slice.injEq, Value.int.injEq, and_true, true_and] at e
   first
    | exact ⟨e.1.1, e.1.2.1, by omega⟩
    | exact absurd e.2.2.2 fn_ne
    | exact absurd e.2.2.2.symm fn_ne
    | exact absurd e.2.2.2.2 fn_ne
    | exact absurd e.2.2.2.2.symm fn_ne
 obtain ⟨rfl, hl, rfl⟩ := key
 refine ⟨List.ext_getElem hl fun i h1 h3 => ?_, rfl⟩
 obtain ⟨b, off, e1, _, _, c1⟩ := hb.by.cell h1
 obtain ⟨b', off', e2, _, _, c2⟩ := hb2.by.cell h3
 rw [e1] at e2
 simp only [Option.some.injEq, Addr.mk.injEq, and_true] at e2
 obtain ⟨rfl, rfl⟩ := e2
 rw [c1] at c2
 simp only [Option.some.injEq, Value.int.injEq, true_and] at c2
 exact UInt8.toNat_inj.1 (by omega)
open Classical in
noncomputable def muF (B bs g : Nat) (W : World) : Nat := if h : ∃ m, ∃ R k, Spl B bs g R k W ∧ m = R.length - k then h.choose else 0
theorem muF_eq {B bs g k : Nat} {R : List UInt8} {W : World} (h : Spl B bs g R k W) : muF B bs g W = R.length - k := by
 have hx : ∃ m, ∃ R k, Spl B bs g R k W ∧ m = R.length - k := ⟨_, R, k, h, rfl⟩
 unfold muF
 rw [dif_pos hx]
 obtain ⟨R2, k2, h2, he⟩ := hx.choose_spec
 obtain ⟨rfl, rfl⟩ := h.uniq h2
 exact he
def okN : Value → Nat
 | .bool true => 1
 | _ => 0
def Short (R0 : List UInt8) : Prop := ∀ fs R k, Runs R0 0 fs R k → ZK R k = none → R.length ≤ k + 8192
theorem short_of {R0 : List UInt8} (h : R0.length ≤ 8192) : Short R0 := fun fs R k hr _ => by
 have := hr.len.2.1
 omega
theorem left_any (B bs g k : Nat) (R : List UInt8) (hR : R.length ≤ 1000000) (w : World) (h : Spl B bs g R k w) :
 Calls Tryz.prog 61 #[.pointer (some ⟨bs, 0, none⟩)] w fun e w' => e = .returned (.int .i64 ((R.length : Nat) : Int)) ∧ Below w.heap.size w w' := by
 have hc : ∃ A c, w.cell? ⟨bs, 0, none⟩ = some (.slice A R.length c) ∧ w.cell? ⟨bs, 3, none⟩ = some (.int .i64 0) := by
  obtain ⟨_, _, _, A, c, _, st⟩ := h
  rcases st with ⟨_, _, h2⟩ | ⟨_, h2⟩ <;> exact ⟨A, c, h2.c0, h2.c3⟩
 obtain ⟨A, c, c0, c3⟩ := hc
 clear h
 generalize R.length = n at *
 have hs : IntKind.i64.wrap (0 + (n : Int)) = (n : Int) := by rw [Go.IntWalk.i64_in _ (by omega)]; omega
 go_enter Tryz.func61, Tryz.ntmps61
 go_wp2_with fail
 go_quiet (fail)
 go_wp2_with fail
 go_ret
 exact ⟨by first | rfl | rw [Int.zero_add], ZF _ _⟩
end Go.Proofs.YtpgfnlhfciacoaaGreatDoor
