/- frame: readLine where the line is not too long. -/
import Derived.Test.YtldlghfjinpnkaaDoorSearch
import Derived.Test.YtldlghfjinpnkaaDoorLast
import Derived.Deep.RegionHeld3
namespace Go.Proofs.YtldlghfjinpnkaaDoor
open Go.RowKit

/-- The data of a frame, in a row that fits P. -/
def FrD (P : Nat → Prop) (w : World) (v : Value) (l : List UInt8) : Prop := ∃ A c g, v = .slice A l.length c ∧ BRow g w A c l ∧ P g

/-- What Next answers. -/
def NxPost (B bs g : Nat) (R : List UInt8) (k : Nat) (w : World) (e' : Ending) (w' : World) : Prop :=
  (∃ f R' k' v, stepF R k = some (f, R', k') ∧ e' = .returned (.tuple #[.agg #[.int .i64 (f.kind : Int), v], .bool true]) ∧ FrD (w.heap.size ≤ ·) w' v f.data ∧ Spl B bs g R' k' w' ∧ w.grownBy w' (some bs)) ∨
  (endOf R k = none ∧ e' = .returned (.tuple #[.agg #[.int .i64 0, .slice none 0 0], .bool false]) ∧ Spl B bs g R k w' ∧ w.grownBy w' (some bs))

theorem search_yes (B bs g c : Nat) (A : Option Addr) (R : List UInt8) (ln dr : Int) (fn : Value) (a n e : Nat) (hn : R.length = n) (ha : a ≤ n) (hR : n ≤ 1000000) (w : World) (hw : B ≤ w.heap.size) (henv : EnvB B w) (hb : BRow g w A c R) (h : Raw bs A n c ln (a : Int) dr fn w) (he : endOf R a = some e) :
    Calls Tryd.prog 32 #[.pointer (some ⟨bs, 0, none⟩)] w fun e' w' => e' = .returned (.bool true) ∧ Hid (Raw bs A n c ln (e : Int) dr fn w') ∧ Hid (w.grownBy w' (some bs)) := by
  refine (search_any B bs g c A R ln dr fn a n hn ha hR w hw henv hb h).mono ?_
  rintro e' w' (⟨e2, h1, h2, h3, h4⟩ | ⟨_, h1, _⟩)
  · rw [he] at h1
    obtain rfl := Option.some.inj h1
    exact ⟨h2, h3, h4⟩
  · rw [he] at h1
    cases h1
theorem search_no (B bs g c : Nat) (A : Option Addr) (R : List UInt8) (ln dr : Int) (fn : Value) (a n : Nat) (hn : R.length = n) (ha : a ≤ n) (hR : n ≤ 1000000) (w : World) (hw : B ≤ w.heap.size) (henv : EnvB B w) (hb : BRow g w A c R) (h : Raw bs A n c ln (a : Int) dr fn w) (he : endOf R a = none) :
    Calls Tryd.prog 32 #[.pointer (some ⟨bs, 0, none⟩)] w fun e' w' => e' = .returned (.bool false) ∧ (∃ m : Nat, Hid (Raw bs A n c ln (m : Int) dr fn w') ∧ a ≤ m ∧ m ≤ n ∧ Hid (m = a ∨ m + 1 = n)) ∧ Hid (w.grownBy w' (some bs)) := by
  refine (search_any B bs g c A R ln dr fn a n hn ha hR w hw henv hb h).mono ?_
  rintro e' w' (⟨e2, h1, h2, h3, h4⟩ | ⟨m, h1, h2, h3, h4, h5, h6, h7⟩)
  · rw [he] at h1
    cases h1
  · exact ⟨h2, ⟨m, h3, h5, h6, h7⟩, h4⟩

theorem scan_more {R : List UInt8} {k a m : Nat} (h : Scan R k a) (h1 : a ≤ m) (h2 : m ≤ R.length) (h3 : m = a ∨ m + 1 = R.length) (he : endOf R k = none) : Scan R k m := by
  refine ⟨Nat.le_trans h.1 h1, h2, fun j hj hjm => ⟨?_, endOf_none.1 he j hj⟩⟩
  rcases h3 with rfl | h3
  · exact (h.2.2 j hj hjm).1
  · omega

/-- The result's block. -/
theorem res_block {w w1 : World} {bs : Nat} (h : (w.alloc (.cells #[.int .i64 0, .slice none 0 0] 42)).grownBy w1 (some bs)) (hb : bs < w.heap.size) : w1.heap[w.heap.size]? = some (.cells #[.int .i64 0, .slice none 0 0] 42 (0, 0)) := by
  rw [h.block _ (by simp) (fun e => by injection e; omega)]
  exact heap_alloc_new _ _

theorem grown_drawN {w w' : World} {row : Option Nat} (h : w.grownBy w' row) (n : Nat) : w.grownBy (w'.drewN n) row := h.trans (grown_of_below (belDrawN (Below.refl _ _) n))
theorem grown_draw {w w' : World} {row : Option Nat} (h : w.grownBy w' row) : w.grownBy w'.drew row := h.trans (grown_of_below (belDraw (Below.refl _ _)))

/-- The end of a call that leaves its bytes as they are. -/
theorem nx_end {B bs g c n k : Nat} {A : Option Addr} {R : List UInt8} {w w1 w' : World} {o : Obj} (lo : B ≤ bs ∧ B ≤ g ∧ g ≠ bs) (hw : B ≤ w.heap.size) (hbs : bs < w.heap.size) (henv : EnvB B w) (b0 : Below w.heap.size w (w.alloc o)) (hb : BRow g w A c R) (_hn : R.length = n) (hg : (w.alloc o).grownBy w1 (some bs))
    (hst : (∃ a : Nat, Scan R k a ∧ Raw bs A R.length c (k : Int) (a : Int) 0 (stFn 19 bs) w1) ∨ (∃ ln : Int, Raw bs A R.length c ln (k : Int) 0 (stFn 36 bs) w1))
    (hk : w1.grownBy w' (some w.heap.size)) : Spl B bs g R k w' ∧ w.grownBy w' (some bs) := by
  have g0 : w.grownBy w1 (some bs) := (grown_of_below b0).trans hg
  have hz : (w.alloc o).heap.size = w.heap.size + 1 := by simp
  have g1 : w.grownBy w' (some bs) := g0.andThen hk (fun j hj => .inl (by injection hj; omega))
  refine ⟨⟨lo, Nat.le_trans hw g1.size, henv.grown g1 lo.1 hw, A, c, hb.grown g1 (by intro e; injection e; omega), ?_⟩, g1⟩
  rcases hst with ⟨a, h1, h2⟩ | ⟨ln, h2⟩
  · exact .inl ⟨a, h1, h2.grown hk (by intro e; injection e; omega)⟩
  · exact .inr ⟨ln, h2.grown hk (by intro e; injection e; omega)⟩

set_option maxRecDepth 100000 in
set_option maxHeartbeats 2000000 in
theorem rl_wait (B bs g c : Nat) (A : Option Addr) (R : List UInt8) (k a n : Nat) (hn : R.length = n) (hR : n ≤ 1000000) (w : World) (lo : B ≤ bs ∧ B ≤ g ∧ g ≠ bs) (hw : B ≤ w.heap.size) (henv : EnvB B w) (hb : BRow g w A c R)
    (hs : Scan R k a) (h : Raw bs A n c (k : Int) (a : Int) 0 (stFn 19 bs) w) (he : endOf R k = none) (hsh : n ≤ k + 8192) :
    Calls Tryd.prog 19 #[.pointer (some ⟨bs, 0, none⟩)] w (NxPost B bs g R k w) := by
  have hbs := h.lt
  have b0 := below_al w (.cells #[.int .i64 0, .slice none 0 0] 42)
  have SE := Lib.hid (search_no B bs g c A R (k : Int) 0 _ a n hn (by have := hs.2.1; omega) hR _ (by simp; omega) (henv.below (b0.mono hw)) (hb.grow b0) (h.grow b0) (by rw [← hs.endOf]; exact he))
  have hka := hs.1
  have HS := Lib.hid hs
  have HE := Lib.hid he
  have HN := Lib.hid hn
  have HENV := Lib.hid henv
  have HB := Lib.hid hb
  have LO := Lib.hid lo
  have B0 := Lib.hid b0
  clear h hs he hn henv hb lo b0
  go_enter Tryd.func19, Tryd.ntmps19
  go_wp2_with fail
  refine SE.out.mono ?_
  rintro e' w1 ⟨rfl, ⟨m, hr, h1, h2, h3⟩, hg⟩
  have c1 := hr.out.c1
  have c2 := hr.out.c2
  have HX := Lib.hid (res_block hg.out hbs)
  have k0 := cell_of_row _ _ 0 _ _ _ HX.out
  have k1 := cell_of_row _ _ 1 _ _ _ HX.out
  have kf0 := Joins.unfrozen_of_block HX.out 0
  have kf1 := Joins.unfrozen_of_block HX.out 1
  have hd : IntKind.i64.wrap ((m : Int) - (k : Int)) = ((m - k : Nat) : Int) := by rw [Go.IntWalk.i64_in _ (by omega)]; omega
  have ht : decide ((8192 : Int) < ((m - k : Nat) : Int)) = false := by simp; omega
  clear SE
  go_wp2_with fail
  go_quiet (fail)
  go_wp2_with fail
  refine bodyPost_ret (v := .tuple #[.agg #[.int .i64 0, .slice none 0 0], .bool false]) (by simp [results, Tryd.results19, go_sem, k0, k1]) rfl ?_
  refine Or.inr ⟨HE.out, rfl, ?_⟩
  refine nx_end (w1 := w1) LO.out hw hbs HENV.out B0.out HB.out HN.out hg.out (.inl ⟨m, scan_more HS.out h1 (by rw [HN.out]; exact h2) (by rw [HN.out]; exact h3.out) HE.out, by rw [HN.out]; exact hr.out⟩) ?_
  repeat (first | exact World.grownBy.refl _ _ | refine grown_set ?_ _ _ | refine grown_drawN ?_ _ | refine grown_draw ?_)
end Go.Proofs.YtldlghfjinpnkaaDoor
