/- frame: readLong at a line's end, startLong, readLine where the line is too long. -/
import Derived.Test.YtldlghfjinpnkaaDoorReadC
import Derived.BigRegion
namespace Go.Proofs.YtldlghfjinpnkaaDoor
open Go.RowKit

/-- What readLong and startLong answer. -/
def LgPost (bs g : Nat) (R l : List UInt8) (w : World) (e' : Ending) (w' : World) : Prop :=
  ∃ A' c' g' A c, e' = .returned (.tuple #[.agg #[.int .i64 3, .slice A' l.length c'], .bool true]) ∧ w.heap.size ≤ g' ∧ BRow g' w' A' c' l ∧ BRow g w' A c R ∧
    Raw bs A R.length c 0 0 0 (stFn 19 bs) w' ∧ w.grownBy w' (some bs)

theorem nx_last0 {bs g c n e g' c' : Nat} {A A' : Option Addr} {R l : List UInt8} {w w3 w4 w' : World} (lo : g ≠ bs) (hbs : bs < w.heap.size) (hb : BRow g w A c R) (hn : R.length = n) (he : e + 2 ≤ n)
    (g3 : w.grownBy w3 (some bs)) (hg' : w3.heap.size ≤ g') (hb4 : BRow g' w4 A' c' l) (hr4 : Raw bs (offA A c (e + 2)) (n - (e + 2)) (c - (e + 2)) 0 0 0 (stFn 19 bs) w4) (hg4 : w3.grownBy w4 (some bs)) (hz : w.heap.size < w3.heap.size) (hk : w4.grownBy w' (some w.heap.size)) :
    LgPost bs g (R.drop (e + 2)) l w (.returned (.tuple #[.agg #[.int .i64 3, .slice A' l.length c'], .bool true])) w' := by
  have g1 : w.grownBy w' (some bs) := (g3.trans hg4).andThen hk (fun j hj => .inl (by injection hj; omega))
  have := hr4.grown hk (by intro e; injection e; omega)
  rw [← hn, ← List.length_drop] at this
  exact ⟨A', c', g', _, _, rfl, by omega, hb4.grown hk (by intro e; injection e; omega), (hb.grown g1 (by intro e; injection e; omega)).drop (by omega), this, g1⟩

set_option maxRecDepth 100000 in
set_option maxHeartbeats 4000000 in
theorem readLong_t (B bs g c off : Nat) (R : List UInt8) (n e : Nat) (ln dr : Int) (fn : Value) (hn : R.length = n) (hR : n ≤ 1000000) (w : World) (lo : B ≤ bs ∧ B ≤ g ∧ g ≠ bs) (hw : B ≤ w.heap.size) (henv : EnvB B w) (hb : BRow g w (some ⟨g, off, none⟩) c R)
    (h : Raw bs (some ⟨g, off, none⟩) n c ln (e : Int) dr fn w) (he : endOf R e = some e) (hl : 8192 ≤ e) :
    Calls Tryd.prog 45 #[.pointer (some ⟨bs, 0, none⟩)] w (LgPost bs g (R.drop (e + 2)) (R.take 8192) w) := by
  have hbs := h.lt
  have hle := hb.le
  have hlt := endOf_lt he
  have b0 := below_al w (.cells #[.int .i64 0, .slice none 0 0] 42)
  have SE := Lib.hid (search_yes B bs g c _ R ln dr _ e n e hn (by omega) hR _ (by simp; omega) (henv.below (b0.mono hw)) (hb.grow b0) (h.grow b0) he)
  have LA := Lib.hid (fun (W : World) (hW : Raw bs (some ⟨g, off, none⟩) n c ln (e : Int) dr fn W) (hB : BRow g W (some ⟨g, off, none⟩) c R) => last_any bs n c (some ⟨g, off, none⟩) ln dr 3 _ e (by omega) hR W hW ⟨g, off, none⟩ c 8192 (R.take 8192) (by rw [List.length_take]; omega) (by omega) W.heap.size (hB.take (by omega)).by)
  have HN := Lib.hid hn
  have HB := Lib.hid hb
  have LO := Lib.hid lo
  have B0 := Lib.hid b0
  have HLE := Lib.hid (show e + 2 ≤ n by omega)
  have hsl2 : ∀ W, (Instr.slice 26 (.slice (some ⟨g, off, none⟩) n c) none (some (.int .i64 8192)) none).run Tryd.prog W = .ok (.slice (some ⟨g, off, none⟩) 8192 c) W := fun W => slice_h (some ⟨g, off, none⟩) n c 8192 (by omega) W
  have hse := fun x lo hi mx W => sliceAt_eq x lo hi mx W
  clear h he hn henv hb lo b0
  go_enter Tryd.func45, Tryd.ntmps45
  go_wp2_with fail
  refine SE.out.mono ?_
  rintro e' w1 ⟨rfl, hr, hg⟩
  have c0 := hr.out.c0
  have HX := Lib.hid (res_block hg.out hbs)
  have G1 := Lib.hid ((grown_of_below (row := some bs) B0.out).trans hg.out)
  have HB1 := Lib.hid (HB.out.grown G1.out (fun e => LO.out.2.2 (Option.some.inj e)))
  clear SE
  go_wp2_with fail
  refine (LA.out _ hr.out HB1.out).mono ?_
  rintro e' w4 ⟨A', c', g', rfl, hg', hb4, hr4, hg4⟩
  have RB4 := Lib.hid ((hg4.block _ (Array.getElem?_eq_some_iff.1 HX.out).1 (fun e => by injection e; omega)).trans HX.out)
  have HZ := Lib.hid (Array.getElem?_eq_some_iff.1 HX.out).1
  have k0 := cell_of_row _ _ 0 _ _ _ RB4.out
  have k1 := cell_of_row _ _ 1 _ _ _ RB4.out
  have kf0 := Joins.unfrozen_of_block RB4.out 0
  have kf1 := Joins.unfrozen_of_block RB4.out 1
  have HG' := Lib.hid hg'
  have HB4 := Lib.hid hb4
  have HR4 := Lib.hid hr4
  have HG4 := Lib.hid hg4
  clear hg' hb4 hr4 hg4 LA
  go_wp2_with fail
  refine bodyPost_ret (v := .tuple #[.agg #[.int .i64 3, .slice A' (R.take 8192).length c'], .bool true]) (by simp [results, Tryd.results45, go_sem, k0, k1]) rfl ?_
  refine nx_last0 LO.out.2.2 hbs HB.out HN.out HLE.out G1.out HG'.out HB4.out HR4.out HG4.out HZ.out ?_
  repeat (first | exact World.grownBy.refl _ _ | refine grown_set ?_ _ _ | refine grown_drawN ?_ _ | refine grown_draw ?_)

theorem brow_blk {g c off : Nat} {w : World} {R : List UInt8} (h : BRow g w (some ⟨g, off, none⟩) c R) : ∃ cs, w.heap[g]? = some (.cells cs 5 (0, 0)) := by
  rcases h.lies with ⟨h0, _⟩ | ⟨_, cs, _, hh, _⟩
  · cases h0
  · exact ⟨cs, hh⟩
theorem lg_end {bs g g' c' c : Nat} {A A' : Option Addr} {R l : List UInt8} {w w4 w' : World} (_lo : g ≠ bs) (hbs : bs < w.heap.size) (hg' : w.heap.size ≤ g') (hg2 : w.heap.size < g') (hb4 : BRow g' w4 A' c' l) (hbR : BRow g w4 A c R)
    (hr4 : Raw bs A R.length c 0 0 0 (stFn 19 bs) w4) (hg4 : w.grownBy w4 (some bs)) (hgw : g < w.heap.size) (hk : w4.grownBy w' (some w.heap.size)) :
    LgPost bs g R l w (.returned (.tuple #[.agg #[.int .i64 3, .slice A' l.length c'], .bool true])) w' :=
  ⟨A', c', g', A, c, rfl, hg', hb4.grown hk (by intro e; injection e; omega), hbR.grown hk (by intro e; injection e; omega), hr4.grown hk (by intro e; injection e; omega), hg4.andThen hk (fun j hj => .inl (by injection hj; omega))⟩

set_option maxRecDepth 100000 in
set_option maxHeartbeats 4000000 in
theorem startLong_any (B bs g c off : Nat) (R : List UInt8) (k n e : Nat) (hn : R.length = n) (hR : n ≤ 1000000) (w : World) (lo : B ≤ bs ∧ B ≤ g ∧ g ≠ bs) (hw : B ≤ w.heap.size) (henv : EnvB B w) (hb : BRow g w (some ⟨g, off, none⟩) c R)
    (h : Raw bs (some ⟨g, off, none⟩) n c (k : Int) (e : Int) 0 (stFn 19 bs) w) (he : endOf R k = some e) (hl : 8192 < e - k) :
    Calls Tryd.prog 33 #[.pointer (some ⟨bs, 0, none⟩)] w (LgPost bs g (R.drop (e + 2)) ((R.drop k).take 8192) w) := by
  have hbs := h.lt
  have hle := hb.le
  have hlt := endOf_lt he
  have b0 := below_al w (.cells #[.int .i64 0, .slice none 0 0] 42)
  have hm : Mark R e := (endOf_some.1 he).2.1
  have hd := hb.drop (k := k) (by omega)
  obtain ⟨off2, ho2⟩ := hd.some_of (by rw [List.length_drop]; omega)
  have he2 : endOf (R.drop k) (e - k) = some (e - k) := endOf_some.2 ⟨Nat.le_refl _, (mark_drop R k (e - k)).2 (by rw [show k + (e - k) = e by omega]; exact hm), fun j h1 h2 => by omega⟩
  have hdd : (R.drop k).drop (e - k + 2) = R.drop (e + 2) := by rw [List.drop_drop]; congr 1; omega
  have LG := Lib.hid (fun (W : World) (ln dr : Int) (fn : Value) (hW : w.grownBy W (some bs)) (hr : Raw bs (some ⟨g, off2, none⟩) (n - k) (c - k) ln ((e - k : Nat) : Int) dr fn W) => by
    have := readLong_t B bs g (c - k) off2 (R.drop k) (n - k) (e - k) ln dr fn (by rw [List.length_drop]; omega) (by omega) W lo (Nat.le_trans hw hW.size) (henv.grown hW lo.1 hw) (ho2 ▸ hd.grown hW (by intro e; injection e; omega)) hr he2 (by omega)
    rw [hdd] at this
    exact this)
  have hsl : ∀ W, (Instr.slice 26 (.slice (some ⟨g, off, none⟩) n c) (some (.int .i64 (k : Int))) none none).run Tryd.prog W = .ok (.slice (some ⟨g, off2, none⟩) (n - k) (c - k)) W := fun W => by rw [slice_l (some ⟨g, off, none⟩) n c k (by omega) W, ho2]
  have hse := fun x lo hi mx W => sliceAt_eq x lo hi mx W
  have hw2 : (w.alloc (.cells #[.int .i64 0, .slice none 0 0] 42)).heap[w.heap.size]? = some (.cells #[.int .i64 0, .slice none 0 0] 42 (0, 0)) := heap_alloc_new _ _
  have H1 := Lib.hid (h.grow b0)
  have G0 := Lib.hid (grown_of_below (row := some bs) b0)
  have hd2 : IntKind.i64.wrap ((e : Int) - (k : Int)) = ((e - k : Nat) : Int) := by rw [Go.IntWalk.i64_in _ (by omega)]; omega
  have HN := Lib.hid hn
  have HB := Lib.hid hb
  have LO := Lib.hid lo
  clear h he hn henv hb lo b0 hm hd ho2 he2 hdd
  go_enter Tryd.func33, Tryd.ntmps33
  go_wp2_with fail
  have hz : w.heap.size < (w.alloc (.cells #[.int .i64 0, .slice none 0 0] 42)).heap.size := by simp
  generalize w.alloc (.cells #[.int .i64 0, .slice none 0 0] 42) = w1 at *
  have c0 := H1.out.c0
  have c1 := H1.out.c1
  have c2 := H1.out.c2
  have c3 := H1.out.c3
  have c4 := H1.out.c4
  have f0 := H1.out.fz 0
  have f1 := H1.out.fz 1
  have f2 := H1.out.fz 2
  have f3 := H1.out.fz 3
  have f4 := H1.out.fz 4
  go_region
  go_wp2_with fail
  go_region
  go_wp2_with fail
  have R5 := Lib.hid (((((H1.out.set0 (some ⟨g, off2, none⟩) (n - k) (c - k)).set3 (k : Int)).set2 ((e - k : Nat) : Int)).set1 0).set4 (stFn 45 bs)).drew.drew
  have G5 := Lib.hid (grown_draw (grown_draw (grown_set (grown_set (grown_set (grown_set (grown_set (World.grownBy.refl w1 (some bs)) 0 (.slice (some ⟨g, off2, none⟩) (n - k) (c - k))) 3 (.int .i64 (k : Int))) 2 (.int .i64 ((e - k : Nat) : Int))) 1 (.int .i64 0)) 4 (stFn 45 bs))))
  have RB5 := Lib.hid ((G5.out.block _ hz (fun e => by injection e; omega)).trans hw2)
  refine (LG.out _ _ _ _ (G0.out.trans G5.out) R5.out).mono ?_
  have HG5 := Lib.hid (G0.out.trans G5.out)
  rintro e' w4 ⟨A', c', g', A, c, rfl, hg', hb4, hbR, hr4, hg4⟩
  have RB4 := Lib.hid ((hg4.block _ (Array.getElem?_eq_some_iff.1 RB5.out).1 (fun e => by injection e; omega)).trans RB5.out)
  have HZ := Lib.hid (Array.getElem?_eq_some_iff.1 RB5.out).1
  have k0 := cell_of_row _ _ 0 _ _ _ RB4.out
  have k1 := cell_of_row _ _ 1 _ _ _ RB4.out
  have kf0 := Joins.unfrozen_of_block RB4.out 0
  have kf1 := Joins.unfrozen_of_block RB4.out 1
  have HG' := Lib.hid (Nat.le_trans HG5.out.size hg')
  have HB4 := Lib.hid hb4
  have HBR := Lib.hid hbR
  have HR4 := Lib.hid hr4
  have HG4 := Lib.hid (HG5.out.trans hg4)
  have HZ2 := Lib.hid (show w.heap.size < g' from Nat.lt_of_lt_of_le HZ.out hg')
  clear hg' hb4 hr4 hg4 LG hbR R5 G5 RB5 HG5
  go_wp2_with fail
  refine bodyPost_ret (v := .tuple #[.agg #[.int .i64 3, .slice A' ((R.drop k).take 8192).length c'], .bool true]) (by simp [results, Tryd.results33, go_sem, k0, k1]) rfl ?_
  refine lg_end LO.out.2.2 hbs HG'.out HZ2.out HB4.out HBR.out HR4.out HG4.out ?_ ?_
  · obtain ⟨cs, hcs⟩ := brow_blk HB.out
    exact (Array.getElem?_eq_some_iff.1 hcs).1
  · repeat (first | exact World.grownBy.refl _ _ | refine grown_set ?_ _ _ | refine grown_drawN ?_ _ | refine grown_draw ?_)

theorem lg_spl {B bs g g' c' c : Nat} {A A' : Option Addr} {R l : List UInt8} {w w4 w' : World} (lo : B ≤ bs ∧ B ≤ g ∧ g ≠ bs) (hw : B ≤ w.heap.size) (hbs : bs < w.heap.size) (henv : EnvB B w) (hg2 : w.heap.size < g') (hgw : g < w.heap.size) (hb4 : BRow g' w4 A' c' l) (hbR : BRow g w4 A c R)
    (hr4 : Raw bs A R.length c 0 0 0 (stFn 19 bs) w4) (hg4 : w.grownBy w4 (some bs)) (hk : w4.grownBy w' (some w.heap.size)) :
    FrD (w.heap.size ≤ ·) w' (.slice A' l.length c') l ∧ Spl B bs g R 0 w' ∧ w.grownBy w' (some bs) := by
  have g1 : w.grownBy w' (some bs) := hg4.andThen hk (fun j hj => .inl (by injection hj; omega))
  exact ⟨⟨A', c', g', rfl, hb4.grown hk (by intro e; injection e; omega), by omega⟩, ⟨lo, Nat.le_trans hw g1.size, henv.grown g1 lo.1 hw, A, c, hbR.grown hk (by intro e; injection e; omega), .inl ⟨0, ⟨Nat.le_refl _, Nat.zero_le _, fun j _ hj => absurd hj (Nat.not_lt_zero _)⟩, hr4.grown hk (by intro e; injection e; omega)⟩⟩, g1⟩
end Go.Proofs.YtldlghfjinpnkaaDoor
