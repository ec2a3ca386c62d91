/- frame: Split. -/
import Derived.Test.YtldlghfjinpnkaaDoorFrames
import Derived.Test.YtldlghfjinpnkaaDoorRef05S
import Derived.RangeFuncFrom
import Derived.RangeFuncKeeps
import Derived.Deep.RegionWith
import Derived.Stop.RegionWithIn
import Derived.Deep.DeepCutAuto
namespace Go.Proofs.YtldlghfjinpnkaaDoor
open Go.RowKit
attribute [local go_sem] Oper.semAt_some

theorem infoF4 : (Tryd.prog.info? 42).map (fun i => (i.zero, i.size, i.bytes)) = some (some (.agg #[.int .i64 0, .slice none 0 0]), 2, 32) := by kernel_rfl
theorem EnvB.up {B B' : Nat} {w : World} (h : EnvB B w) (hB : B ≤ B') : EnvB B' w := ⟨h.env, h.mx, by have := h.lt; omega, by have := h.lt; omega, by have := h.lt; omega, by have := h.lt; omega⟩

def FV.p (x : FV) : Int × Value := ((x.f.kind : Int), .slice x.A x.f.data.length x.c)
/-- Between two rounds of Split. -/
def IS (w : World) (lb : Nat) (pre : List FV) (W : World) : Prop :=
  (∃ v, Boxed W lb 27 v ∧ W.ownsRow w.heap.size 42 2 v pre.length (flatL enc2 (pre.map FV.p))) ∧ FrsAt (fun _ => True) W (pre.map FV.p) (pre.map FV.f) ∧ Below w.heap.size w W

theorem boxed_non {W W' : World} {b : Nat} {t : TypeId} {v : Value} {row : Option Nat} (h : Boxed W b t v) (hg : W.grownBy W' row) (hr : ∀ r, row = some r → ∃ o : Obj, W.heap[r]? = some o ∧ o.isCells = false) : Boxed W' b t v := by
  refine h.kept hg (fun e => ?_)
  obtain ⟨o, ho, hc⟩ := hr b e.symm
  rw [show W.heap[b]? = _ from h] at ho
  cases ho
  simp [Obj.isCells] at hc
theorem own_non {W W' : World} {base size n : Nat} {t : TypeId} {v : Value} {xs : List Value} {row : Option Nat} (h : W.ownsRow base t size v n xs) (hg : W.grownBy W' row) (hr : ∀ r, row = some r → ∃ o : Obj, W.heap[r]? = some o ∧ o.isCells = false) : W'.ownsRow base t size v n xs := by
  refine h.kept hg ?_
  rcases h.2 with ⟨rfl, _⟩ | ⟨g, cap, cur, rfl, _, hgb, _⟩
  · exact .inl rfl
  · refine .inr fun e' => ?_
    obtain ⟨o, ho, hc⟩ := hr g (by simpa [Value.ownBlock] using e'.symm)
    rw [hgb] at ho
    cases ho
    simp [Obj.isCells] at hc
theorem frs_non {P : Nat → Prop} {W W' : World} {vs : List (Int × Value)} {fs : List Fr} {row : Option Nat} (h : FrsAt P W vs fs) (hg : W.grownBy W' row) (hr : ∀ r, row = some r → ∃ o : Obj, W.heap[r]? = some o ∧ o.isCells = false) : FrsAt P W' vs fs :=
  h.keeps ⟨hg.size, fun i cs fr hi => (hg.block i (Array.getElem?_eq_some_iff.1 hi).1 (fun e => by
    obtain ⟨o, ho, hc⟩ := hr i e.symm
    rw [hi] at ho
    cases ho
    simp [Obj.isCells] at hc)).trans hi⟩
theorem iS_own (w : World) (lb B : Nat) (hB : w.heap.size ≤ B) : OwnFrom B (IS w lb) := by
  rintro s X Y row ⟨⟨v, h1, h2⟩, h3, h4⟩ hg hr
  have hr2 := fun r e => (hr r e).2
  exact ⟨⟨v, boxed_non h1 hg hr2, own_non h2 hg hr2⟩, frs_non h3 hg hr2, h4.grown hg h4.size (fun k hk => by have := (hr k hk).1; omega)⟩
theorem iS_it {w : World} {lb bs : Nat} (hbs : w.heap.size ≤ bs) (s : List FV) (A B : World) (h : IS w lb s A) (hw : ItF bs A B) : IS w lb s B := by
  obtain ⟨⟨v, h1, h2⟩, h3, h4⟩ := h
  obtain ⟨hg, cs, fr, hb⟩ := hw
  have hx := bx_ne ⟨v, _, _, h1, h2⟩ hb (by decide) (by decide)
  exact ⟨⟨v, h1.kept hg (fun e => hx.1 (Option.some.inj e).symm), h2.kept hg (.inr (hx.2 v h1))⟩, h3.keeps (keeps_grown hg hb (by decide)), h4.grown hg h4.size (fun k hk => by have := Option.some.inj hk; omega)⟩

theorem cells_pair {W : World} {b : Nat} (hb : b = W.heap.size) (x y : Value) (T : TypeId) : ∀ (j : Nat) (u : Value), [x, y][j]? = some u → (W.alloc (.cells #[x, y] T)).cell? ((⟨b, 0, none⟩ : Addr).add j) = some u := by
  intro j u hu
  subst hb
  rw [Addr.add_lit, Nat.zero_add, Joins.cell_alloc_mark_at W _ _ _ _ _ rfl]
  match j, hu with
  | 0, hu => simpa using hu
  | 1, hu => simpa using hu

theorem kpF_a {B0 lb : Nat} {A B : World} {x y : Value} (hB : B0 ≤ A.heap.size) (h : KpF B0 lb (A.alloc (.cells #[x, y] 42)) B) : KpF B0 lb A B := by
  obtain ⟨h1, h2, h3⟩ := h
  have hb := below_al A (.cells #[x, y] 42)
  refine ⟨Nat.le_trans hb.size h1, fun k hk => ?_, fun i cs T fr hi hne hv => ?_⟩
  · rw [h2 k hk]
    exact hb.block k (by omega)
  · refine h3 i cs T fr ((hb.block i (Array.getElem?_eq_some_iff.1 hi).1).trans hi) hne (fun v hbx => hv v ?_)
    by_cases hlt : lb < A.heap.size
    · exact (hb.block lb hlt).symm.trans hbx
    · have hl2 := hbx.lt
      simp at hl2
      have : lb = A.heap.size := by omega
      subst this
      have := (show _ = _ from hbx).symm.trans (heap_alloc_new A (.cells #[x, y] 42))
      simp at this

set_option maxRecDepth 100000 in
set_option maxHeartbeats 4000000 in
theorem split_any (D c n : Nat) (A : Option Addr) (l : List UInt8) (hn : l.length = n) (hl : n ≤ 1000000) (hsh : Short l) (w : World) (henv : EnvB w.heap.size w) (hA : ByAt D w A c l) :
    Calls Tryd.prog 15 #[.slice A n c] w (RsPost 42 l w) := by
  obtain ⟨i0, hi, hz0, hz1, hz2⟩ := info_parts infoF4
  have NW := Lib.hid (new_any w.heap.size w (Nat.le_refl _) henv)
  have FD := Lib.hid (fun (w1 : World) (h : Spl w.heap.size w.heap.size (w.heap.size + 1) [] 0 w1) (hb : Below w.heap.size w w1) (hz : w.heap.size < w1.heap.size) => feed_any w.heap.size w.heap.size (w.heap.size + 1) [] 0 l n hn (by simpa using hl) w1 h hz w1.heap.size c A (hA.here.below hb |>.mono hb.size))
  have HN := Lib.hid hn
  clear henv hA hn
  refine (callsIn_wide (n := 3)).1 ?_
  refine callsIn_of_wp_marks Tryd.func15 rfl trivial ?_ rfl
  simp only [Tryd.ntmps15, List.size_toArray, List.length_cons, List.length_nil, Nat.reduceAdd, Nat.reduceSub, Array.replicate_succ, Array.replicate_zero, List.push_toArray, List.append_toArray, List.nil_append, List.cons_append]
  gi_wp2_with fail
  refine ⟨trivial, ?_⟩
  refine (callsIn_wide.2 NW.out).mono ?_
  rintro e w1 ⟨rfl, hs1, hb1, hz1'⟩
  have FD := Lib.hid (FD.out w1 hs1 hb1 hz1')
  have HB1 := Lib.hid hb1
  clear hs1 hb1 NW
  gi_wp2_with fail
  refine ⟨trivial, ?_⟩
  refine (callsIn_wide.2 FD.out).mono ?_
  rintro e w2 ⟨rfl, g', w1', hg', hs2, hg1, hg2⟩
  have hb2 : Below w.heap.size w w2 := (HB1.out.grown hg1 HB1.out.size (fun k hk => by have := Option.some.inj hk; omega)).grown hg2 (Nat.le_trans HB1.out.size hg1.size) (fun k hk => by have := Option.some.inj hk; omega)
  have hz2' : w.heap.size < w2.heap.size := Nat.lt_of_lt_of_le hz1' (Nat.le_trans hg1.size hg2.size)
  rw [List.nil_append] at hs2
  clear FD HB1 hg' hg1 hg2
  gi_wp2_with fail
  have hI0 : IS w w2.heap.size [] (w2.alloc (.cells #[.slice none 0 0] 27)) := ⟨⟨_, Boxed.new w2 _ _, World.ownsRow_nil _ _ _ _⟩, .nil, hb2.trans ((below_al w2 _).mono hb2.size)⟩
  have hS0 := hs2.grow (below_al w2 (.cells #[.slice none 0 0] 27))
  have hzz : w2.heap.size < (w2.alloc (.cells #[.slice none 0 0] 27)).heap.size := by simp
  have HZ := Lib.hid hzz
  clear hs2 hb2
  generalize hlb : w2.heap.size = lb at *
  generalize w2.alloc (.cells #[.slice none 0 0] 27) = W0 at *
  refine wpIn_rangeFunc_bound rfl (by omega) (gf := 24) (ra := #[.pointer (some ⟨w.heap.size, 0, none⟩)]) (Bx := BxF lb w.heap.size) rfl trivial (enters_of Tryd.func24 (by kernel_rfl) rfl)
    (frames_does 2 (by omega) w.heap.size w.heap.size g' lb w.heap.size n l (by rw [HN.out]; exact hl) hsh (fun fs R k hr => by have := hr.len.1; rw [HN.out] at this; omega) W0 hS0 (by omega))
    (fun x W l o o' h1 h2 ⟨g, h⟩ => ⟨g, h.put h1 h2⟩)
    (fun xs W l o o' h0 h1 h2 ⟨R', k', h3, h4, h5⟩ => ⟨R', k', h3, h4, h5.put (by omega) h1 h2⟩)
    (fun A B l o o' h0 h1 h2 h3 h4 => kpF_l (by omega) h1 h2 h3 h4)
    (fun A B l o o' h0 h1 h2 h3 => kpF_r (by omega) h1 h2 h3)
    (fun X Y i o hw ho hc => by
      obtain ⟨hg, cs, fr, hb⟩ := hw
      refine (hg.block i (Array.getElem?_eq_some_iff.1 ho).1 (fun e => ?_)).trans ho
      obtain rfl := Option.some.inj e
      exact cells_ne ho hc hb rfl)
    (Below.refl _ _) (fun _ => rfl)
    (IS w lb) (fun _ _ _ => False) (iS_own w lb _ (by omega)) (fun c s X Y row h => h.elim)
    (iS_it (Nat.le_refl _)) (fun s A h => by obtain ⟨⟨v, h1, h2⟩, _⟩ := h; exact ⟨v, _, _, h1, h2⟩)
    hI0 (fun x W => { tmps := #[.slice A n c, undef, .slice none 0 0, .int .i64 0, .pointer (some ⟨w.heap.size, 0, none⟩), .pointer (some ⟨lb, 0, none⟩), .pointer (some ⟨W.heap.size, 0, none⟩), .pointer (some ⟨w.heap.size, 0, none⟩), .pointer (some ⟨w.heap.size, 0, none⟩), .slice A n c, .tuple #[], .pointer (some ⟨w.heap.size, 0, none⟩), .func (.func 24) #[.pointer (some ⟨w.heap.size, 0, none⟩)] #[], .agg #[.int .i64 (x.f.kind : Int), .slice x.A x.f.data.length x.c], undef, undef, undef, undef, undef, undef, undef], defers := [] })
    (fun x => .cells #[.int .i64 (x.f.kind : Int), .slice x.A x.f.data.length x.c] 42)
    (fun x W o ⟨g, h⟩ => ⟨g, h.grow (below_al W o)⟩) (fun x A B h0 h => kpF_a (by omega) h) ?assign ?body ?done ?stop
  case assign =>
    intro l x W K hK
    unfold encF
    gi_wp2
    exact hK
  case body =>
    rintro r pre x Wp W ⟨⟨v, h1, h2⟩, h3, h4⟩ hgd hWp hfb hlt
    obtain ⟨Av, cv, hv⟩ := own_any h2
    subst hv
    have hb1 := h1.cell
    have hf1 := h1.frozen
    have k0 := cell_of_row _ _ 0 _ _ _ hfb
    have k1 := cell_of_row _ _ 1 _ _ _ hfb
    have hpl : pre.length ≤ 1000000 := by omega
    have hlb2 := h1.lt
    have HGD := Lib.hid hgd
    have H3 := Lib.hid h3
    have H4 := Lib.hid h4
    have hs4 := h4.size
    clear hgd h3 h4 hfb
    gi_wp2_with (gi_at_builtin; refine wpListIn_append_own _ rfl _ _ 27 rfl w.heap.size 42 i0 _ 2 32 Tryd.underlying27 hi hz0 hz1 hz2 rfl (by decide) _ _ _ rfl (h2.alloc _) ⟨W.heap.size, 0, none⟩ 1 1 [.int .i64 (x.f.kind : Int), .slice x.A x.f.data.length x.c] rfl rfl (cells_pair rfl _ _ _) (by intro u hu; simp at hu; rcases hu with rfl | rfl <;> rfl) (by unfold maxLen; omega) (by omega) (by simp; omega) ?_; intro v' w8 hown' hgrow _; obtain ⟨g2, cap', rfl⟩ := ownsRow_succ hown'; obtain ⟨hv1, hv2, hr2, hk2, hb2⟩ := h1.appended (by decide) h2 hs4 (by omega) hown' hgrow; have hc1 : w8.cell? ⟨lb, 0, none⟩ = some (.slice Av pre.length cv) := hv1.cell; have hf1 : w8.frozen? ⟨lb, 0, none⟩ = false := hv1.frozen)
    have hKT : KeepsT 5 W (w8.setCell ⟨lb, 0, none⟩ (.slice (some ⟨g2, 0, none⟩) (pre.length + 1) cap')) := (KeepsT.app h2 (by decide) hgrow).set_ hv1 (by decide) _
    obtain ⟨gx, hgx⟩ := HGD.out
    refine ⟨hk2.from _, ⟨hb2.size, hb2.block, fun i cs T fr hi2 hne hv => ?_⟩, ⟨_, hv2, ?_⟩, ?_, H4.out.trans hb2⟩
    · rw [Below.heap_setCell _ _ _ i hne, hgrow.block i (by have := (Array.getElem?_eq_some_iff.1 hi2).1; simp; omega) (fun e => hv _ h1 e.symm)]
      exact ((below_al W _).block i (Array.getElem?_eq_some_iff.1 hi2).1).trans hi2
    · rw [List.map_append, flatL_append, List.length_append]
      exact hr2
    · rw [List.map_append, List.map_append]
      exact (H3.out.keeps hKT).append (.one (show FrD (fun _ => True) _ (.slice x.A x.f.data.length x.c) x.f.data from ⟨x.A, x.c, gx, rfl, hgx.keeps hKT, trivial⟩))
  case done =>
    rintro E ys W hD ⟨R', k', hrun, hdn, hsp⟩ ⟨⟨v, h1, h2⟩, h3, h4⟩ hK
    obtain ⟨Av, cv, hv⟩ := own_any h2
    subst hv
    have c1 := h1.cell
    have hRl : R'.length ≤ 1000000 := by have := hrun.len.2.1; rw [HN.out] at this; omega
    have LF := Lib.hid (fun (X : World) (h : Spl w.heap.size w.heap.size g' R' k' X) => left_any w.heap.size w.heap.size g' k' R' hRl X h)
    have HSP := Lib.hid hsp
    have hlb2 := h1.lt
    have HR := Lib.hid hrun
    have HDn := Lib.hid hdn
    have H3 := Lib.hid h3
    have H4 := Lib.hid h4
    have HK := Lib.hid hK
    have H1 := Lib.hid h1
    have H2 := Lib.hid h2
    have hd : 1 ≤ 3 := by omega
    have hmx : Tryd.prog.follows .mixedOrders = true := by kernel_rfl
    clear hrun hdn h3 h4 hsp hK h1 h2
    have c5 := H1.out.cell
    have LFd := Lib.hid (LF.out W.drew (HSP.out.grow (belDraw (Below.refl _ _))))
    gi_wp2
    refine wpIn_mono (Q := NoPanic _) ?_ NoPanic.imp
    gi_region_with (refine ⟨trivial, ?_⟩; gi_at_call 14; refine (callsIn_wide.2 LFd.out).mono ?_; rintro e w3 ⟨rfl, hb3⟩; have hb4 : Below W.heap.size W w3 := (belDraw (Below.refl W.heap.size W)).trans hb3; have c3 : w3.cell? ⟨lb, 0, none⟩ = some (.slice Av ys.length cv) := (hb4.cell (p := ⟨lb, 0, none⟩) hlb2).trans c5)
    all_goals
      have hK2 := (hb4.block E (Array.getElem?_eq_some_iff.1 HK.out).1).trans HK.out
      have hEz : w.heap.size ≤ E := by omega
      refine NoPanic.normal ?_
      gi_wp2
      refine ⟨by simp, .inl ⟨_, _, rfl, run_takeDeferred hK2, ?_⟩⟩
      refine ⟨.tuple #[.slice Av ys.length cv, .int .i64 ((R'.length : Nat) : Int)], ?_, ?_⟩
      · simp [results, Tryd.f15, go_sem]
      · refine ⟨_, ys.map FV.p, ys.map FV.f, R', k', rfl, ?_, ?_, ?_, HR.out, HDn.out⟩
        · rw [List.length_map]
          exact ownsRow_putObj (own_below H2.out hb4) _ hK2 rfl
        · exact frs_non (H3.out.keeps (keeps_below hb4)) (grownBy_putObj' _ E _) (fun r e => by cases e; exact ⟨_, hK2, rfl⟩)
        · exact (H4.out.trans (hb4.mono H4.out.size)).trans (belowK_b (w := w) (Nat.le_refl _) _ E _ _ hEz hK2 rfl rfl)
  case stop => rintro D c pre W hD _ h; exact h.elim
end Go.Proofs.YtldlghfjinpnkaaDoor
