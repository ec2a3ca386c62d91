/- frame: bytes.Clone; last. -/
import Derived.Test.YtldlghfjinpnkaaDoorSpl
import Derived.Deep.QuietTactic
import Derived.BigQuiet
import Derived.RegionTactic
import Derived.BigRegion
import Derived.Laws.EntriesVeiled
namespace Go.Proofs.YtldlghfjinpnkaaDoor
open Go.RowKit

theorem brow_empty (w : World) : BRow w.heap.size (w.alloc (.cells #[] 5)) (some ⟨w.heap.size, 0, none⟩) 0 [] :=
  ⟨Nat.le_refl _, Nat.zero_le _, .inr ⟨0, #[], rfl, heap_alloc_new _ _, Nat.zero_le _, fun _ hj => absurd hj (Nat.not_lt_zero _)⟩⟩

/-- A new slice that reads as l. -/
def ClPost (w : World) (l : List UInt8) (e : Ending) (w' : World) : Prop := ∃ A c g, e = .returned (.slice A l.length c) ∧ w.heap.size ≤ g ∧ BRow g w' A c l ∧ Below w.heap.size w w'

set_option maxRecDepth 100000 in
set_option maxHeartbeats 1000000 in
theorem clone_any (B : Nat) (a : Addr) (c n : Nat) (l : List UInt8) (hn : l.length = n) (hl : n ≤ 1000000) (w : World) (hA : ByAt B w (some a) c l) :
    Calls Tryd.prog 48 #[.slice (some a) n c] w (ClPost w l) := by
  obtain ⟨A', c', w', g', hr, hg, hb, hgr⟩ := append_brow (w.alloc (.cells #[] 5)) 26 w.heap.size _ 0 0 [] (brow_empty w) rfl w.heap.size (some a) c n l (hA.here.below (below_al w _)) hn (by omega)
  rw [Nat.zero_add] at hr
  have hP : ClPost w l (.returned (.slice A' n c')) w' := by
    subst hn
    refine ⟨A', c', g', rfl, ?_, by simpa using hb, ?_⟩
    · rcases hg with rfl | hg
      · exact Nat.le_refl _
      · simp at hg; omega
    · exact (below_al w _).grown hgr (by simp) (fun k hk => by injection hk with hk; omega)
  have HP := Lib.hid hP
  have HR := Lib.hid hr
  have q22 : ∀ (w : World) (a : Option Addr) (n c n' c' : Nat), (binOp .eql 26 (.slice a n c) (.slice none n' c')).run Tryd.prog w = .ok (.bool a.isNone) w := fun w a n c n' c' => Lib.run_eql_slice_nil w _ _ a n c n' c' Tryd.underlying26
  clear hr hb hgr hg hP hA
  go_enter Tryd.func48, Tryd.ntmps48
  go_wp2_with (at_builtin; refine Lib.wpList_append_run_sl _ rfl _ _ 26 rfl _ _ rfl rfl HR.out ?_)
  go_ret
  exact HP.out

/-- What last answers. -/
def LastPost (bs : Nat) (A : Option Addr) (n c e : Nat) (kind : Int) (l : List UInt8) (w : World) (e' : Ending) (w' : World) : Prop :=
  ∃ A' c' g', e' = .returned (.agg #[.int .i64 kind, .slice A' l.length c']) ∧ w.heap.size ≤ g' ∧ BRow g' w' A' c' l ∧
    Raw bs (offA A c (e + 2)) (n - (e + 2)) (c - (e + 2)) 0 0 0 (stFn 19 bs) w' ∧ w.grownBy w' (some bs)

set_option maxRecDepth 100000 in
set_option maxHeartbeats 2000000 in
theorem last_any (bs n c : Nat) (A : Option Addr) (ln dr kind : Int) (fn : Value) (e : Nat) (he : e + 2 ≤ n) (hn : n ≤ 1000000) (w : World) (h : Raw bs A n c ln (e : Int) dr fn w)
    (a2 : Addr) (c2 m : Nat) (l : List UInt8) (hm : l.length = m) (hm2 : m ≤ 1000000) (B : Nat) (hA : ByAt B w (some a2) c2 l) :
    Calls Tryd.prog 35 #[.pointer (some ⟨bs, 0, none⟩), .int .i64 kind, .slice (some a2) m c2] w (LastPost bs A n c e kind l w) := by
  have CL := Lib.hid (fun W (hW : Below w.heap.size w W) => clone_any _ a2 c2 m l hm hm2 W (hA.here.below hW))
  have HH := Lib.hid h
  have hbs := h.lt
  have hsl : ∀ W, (Instr.slice 26 (.slice A n c) (some (.int .i64 ((e : Int) + 2))) none none).run Tryd.prog W = .ok (.slice (offA A c (e + 2)) (n - (e + 2)) (c - (e + 2))) W := fun W => slice_l A n c (e + 2) (by omega) W
  have hse := fun x lo hi mx W => sliceAt_eq x lo hi mx W
  have HM := Lib.hid hm
  clear hA h hm
  go_enter Tryd.func35, Tryd.ntmps35
  go_wp2_with fail
  refine (CL.out _ (below_al w _)).mono ?_
  rintro e' w1 ⟨A', c', g', rfl, hg, hb, hbl⟩
  rw [HM.out]
  have hb0 := below_next (below_al w (.cells #[.int .i64 0, .slice none 0 0] 42)) hbl
  have hb1 := below_next hb0 (below_al w1 (.cells #[.int .i64 kind, .slice A' m c'] 42))
  have H1 := Lib.hid (HH.out.grow hb1)
  have HG := Lib.hid (grown_of_below (row := some bs) hb1)
  have HB := Lib.hid (hb.grow (below_al w1 (.cells #[.int .i64 kind, .slice A' m c'] 42)))
  have HG2 := Lib.hid hg
  have hx : w.heap.size < w1.heap.size := by have := hbl.size; simp at this; omega
  have b1 := below_al w1 (.cells #[.int .i64 kind, .slice A' m c'] 42)
  have k0 : (w1.alloc (.cells #[.int .i64 kind, .slice A' m c'] 42)).heap[w.heap.size]? = some (.cells #[.int .i64 0, .slice none 0 0] 42 (0, 0)) := by
    rw [b1.block _ hx, hbl.block _ (by simp)]
    exact heap_alloc_new _ _
  have m0 : (w1.alloc (.cells #[.int .i64 kind, .slice A' m c'] 42)).heap[w1.heap.size]? = some (.cells #[.int .i64 kind, .slice A' m c'] 42 (0, 0)) := heap_alloc_new _ _
  have KX := Lib.hid k0
  have hne : bs ≠ w.heap.size := by omega
  have hne2 : bs ≠ w1.heap.size := by omega
  have hne3 : w.heap.size ≠ w1.heap.size := by omega
  clear hb0 hb1 hb hg CL HH hbl b1
  go_wp2_with fail
  generalize w1.alloc (.cells #[.int .i64 kind, .slice A' m c'] 42) = w2 at *
  have c0 := H1.out.c0
  have c1 := H1.out.c1
  have c2' := H1.out.c2
  have c3 := H1.out.c3
  have c4 := H1.out.c4
  have f0 := H1.out.fz 0
  have f1 := H1.out.fz 1
  have f2 := H1.out.fz 2
  have f3 := H1.out.fz 3
  have f4 := H1.out.fz 4
  have kc0 : w2.cell? ⟨w.heap.size, 0, none⟩ = some (.int .i64 0) := cell_of_row _ _ 0 _ _ _ k0
  have kc1 : w2.cell? ⟨w.heap.size, 1, none⟩ = some (.slice none 0 0) := cell_of_row _ _ 1 _ _ _ k0
  have kf0 := Joins.unfrozen_of_block k0 0
  have kf1 := Joins.unfrozen_of_block k0 1
  have mc0 : w2.cell? ⟨w1.heap.size, 0, none⟩ = some (.int .i64 kind) := cell_of_row _ _ 0 _ _ _ m0
  have mc1 : w2.cell? ⟨w1.heap.size, 1, none⟩ = some (.slice A' m c') := cell_of_row _ _ 1 _ _ _ m0
  clear k0 m0
  have R4 := Lib.hid (((((H1.out.set0 (offA A c (e + 2)) (n - (e + 2)) (c - (e + 2))).set1 0).set2 0).set3 0).set4 (stFn 19 bs))
  have G4 := Lib.hid (grown_set (grown_set (grown_set (grown_set (grown_set (World.grownBy.refl w2 (some bs)) 0 (.slice (offA A c (e + 2)) (n - (e + 2)) (c - (e + 2)))) 1 (.int .i64 0)) 2 (.int .i64 0)) 3 (.int .i64 0)) 4 (stFn 19 bs))
  generalize hoff : offA A c (e + 2) = O at *
  go_region
  go_wp2_with fail
  subst hoff
  have hgs : w.heap.size + 1 ≤ g' := by have := HG2.out; simp at this; exact this
  refine bodyPost_ret (v := .agg #[.int .i64 kind, .slice A' m c']) (by simp [results, Tryd.results35, go_sem, kc0, kc1]) rfl ?_
  unfold LastPost
  rw [HM.out]
  have g1 := fun (x : World) (v u : Value) => ((grown_set (grown_set (World.grownBy.refl x (some w.heap.size)) 0 v) 1 u).trans (grown_of_below (belDraw (Below.refl _ _))) : x.grownBy _ (some w.heap.size))
  refine ⟨A', c', g', rfl, by omega, ?_, ?_, ?_⟩
  · exact ((HB.out.grown G4.out (by intro e; injection e; omega))).grown (g1 _ _ _) (by intro e; injection e; omega)
  · exact R4.out.grown (g1 _ _ _) (by intro e; injection e; omega)
  · exact ((HG.out.trans G4.out)).andThen (g1 _ _ _) (fun j hj => .inl (by injection hj; omega))
end Go.Proofs.YtldlghfjinpnkaaDoor
