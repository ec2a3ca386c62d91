/- The reference of layer 7: body, Parse: the ends; bodyR by shapes. -/
import Derived.Test.YthfopimgdikpgaaGreatDoorRef07P
import Derived.Deep.RegionWith
namespace Go.Proofs.YthfopimgdikpgaaGreatDoor
open Go.RowKit

theorem body_fin {Q : Ending → World → Prop} {tms : Array Value} {W : World} {r : Nat} {c0 c1 c2 c3 c4 c5 c6 c7 c8 a0 a1 a2 a3 a4 a5 a6 a7 a8 : Value} {T : TypeId} {q : Bool}
    (h : W.heap[r]? = some (.cells #[c0, c1, c2, c3, c4, c5, c6, c7, c8] T (0, 0))) (h4 : tms[4]? = some (.pointer (some ⟨r, 0, none⟩))) (h5 : tms[5]? = some (.bool q))
    (hQ : Q (.returned (.tuple #[.agg #[a0, a1, a2, a3, a4, a5, a6, a7, a8], .bool q])) (stC W r a0 a1 a2 a3 a4 a5 a6 a7 a8)) :
    bodyPost Tryz.prog Tryz.f30 Q Exit.ret { tmps := tms, defers := [] } (stC W r a0 a1 a2 a3 a4 a5 a6 a7 a8) := by
  have hq := stC_block h a0 a1 a2 a3 a4 a5 a6 a7 a8
  generalize stC W r a0 a1 a2 a3 a4 a5 a6 a7 a8 = w9 at *
  have q0 := cell_of_row _ _ 0 _ _ _ hq
  have q1 := cell_of_row _ _ 1 _ _ _ hq
  have q2 := cell_of_row _ _ 2 _ _ _ hq
  have q3 := cell_of_row _ _ 3 _ _ _ hq
  have q4 := cell_of_row _ _ 4 _ _ _ hq
  have q5 := cell_of_row _ _ 5 _ _ _ hq
  have q6 := cell_of_row _ _ 6 _ _ _ hq
  have q7 := cell_of_row _ _ 7 _ _ _ hq
  have q8 := cell_of_row _ _ 8 _ _ _ hq
  clear hq h
  refine bodyPost_ret (v := .tuple #[.agg #[a0, a1, a2, a3, a4, a5, a6, a7, a8], .bool q]) (by simp [results, Tryz.results30, go_sem, h4, h5, q0, q1, q2, q3, q4, q5, q6, q7, q8]) rfl hQ

theorem body_finD {Q : Ending → World → Prop} {tms : Array Value} {W : World} {r : Nat} {c0 c1 c2 c3 c4 c5 c6 c7 c8 a0 a1 a2 a3 a4 a5 a6 a7 a8 : Value} {T : TypeId} {q : Bool}
    (h : W.heap[r]? = some (.cells #[c0, c1, c2, c3, c4, c5, c6, c7, c8] T (0, 0))) (h4 : tms[4]? = some (.pointer (some ⟨r, 0, none⟩))) (h5 : tms[5]? = some (.bool q))
    (hQ : Q (.returned (.tuple #[.agg #[a0, a1, a2, a3, a4, a5, a6, a7, a8], .bool q])) (stC W r a0 a1 a2 a3 a4 a5 a6 a7 a8).drew) :
    bodyPost Tryz.prog Tryz.f30 Q Exit.ret { tmps := tms, defers := [] } (stC W r a0 a1 a2 a3 a4 a5 a6 a7 a8).drew := by
  have hq := stC_block h a0 a1 a2 a3 a4 a5 a6 a7 a8
  generalize stC W r a0 a1 a2 a3 a4 a5 a6 a7 a8 = w8 at *
  have hq8 : w8.drew.heap[r]? = some (.cells #[a0, a1, a2, a3, a4, a5, a6, a7, a8] T (0, 0)) := hq
  clear hq
  have hq := hq8
  clear hq8
  generalize w8.drew = w9 at *
  have q0 := cell_of_row _ _ 0 _ _ _ hq
  have q1 := cell_of_row _ _ 1 _ _ _ hq
  have q2 := cell_of_row _ _ 2 _ _ _ hq
  have q3 := cell_of_row _ _ 3 _ _ _ hq
  have q4 := cell_of_row _ _ 4 _ _ _ hq
  have q5 := cell_of_row _ _ 5 _ _ _ hq
  have q6 := cell_of_row _ _ 6 _ _ _ hq
  have q7 := cell_of_row _ _ 7 _ _ _ hq
  have q8 := cell_of_row _ _ 8 _ _ _ hq
  clear hq h
  refine bodyPost_ret (v := .tuple #[.agg #[a0, a1, a2, a3, a4, a5, a6, a7, a8], .bool q]) (by simp [results, Tryz.results30, go_sem, h4, h5, q0, q1, q2, q3, q4, q5, q6, q7, q8]) rfl hQ

theorem rparse_fin {Q : Ending → World → Prop} {tms : Array Value} {W : World} {r : Nat} {c0 c1 c2 c3 c4 c5 c6 c7 c8 a0 a1 a2 a3 a4 a5 a6 a7 a8 : Value} {T : TypeId} {q : Bool}
    (h : W.heap[r]? = some (.cells #[c0, c1, c2, c3, c4, c5, c6, c7, c8] T (0, 0))) (h4 : tms[2]? = some (.pointer (some ⟨r, 0, none⟩))) (h5 : tms[3]? = some (.bool q))
    (hQ : Q (.returned (.tuple #[.agg #[a0, a1, a2, a3, a4, a5, a6, a7, a8], .bool q])) (stC W r a0 a1 a2 a3 a4 a5 a6 a7 a8)) :
    bodyPost Tryz.prog Tryz.f11 Q Exit.ret { tmps := tms, defers := [] } (stC W r a0 a1 a2 a3 a4 a5 a6 a7 a8) := by
  have hq := stC_block h a0 a1 a2 a3 a4 a5 a6 a7 a8
  generalize stC W r a0 a1 a2 a3 a4 a5 a6 a7 a8 = w9 at *
  have q0 := cell_of_row _ _ 0 _ _ _ hq
  have q1 := cell_of_row _ _ 1 _ _ _ hq
  have q2 := cell_of_row _ _ 2 _ _ _ hq
  have q3 := cell_of_row _ _ 3 _ _ _ hq
  have q4 := cell_of_row _ _ 4 _ _ _ hq
  have q5 := cell_of_row _ _ 5 _ _ _ hq
  have q6 := cell_of_row _ _ 6 _ _ _ hq
  have q7 := cell_of_row _ _ 7 _ _ _ hq
  have q8 := cell_of_row _ _ 8 _ _ _ hq
  clear hq h
  refine bodyPost_ret (v := .tuple #[.agg #[a0, a1, a2, a3, a4, a5, a6, a7, a8], .bool q]) (by simp [results, Tryz.results11, go_sem, h4, h5, q0, q1, q2, q3, q4, q5, q6, q7, q8]) rfl hQ


theorem BPost.plain {o : Option Cmd} {c : Cmd} {w W9 : World} (ho : o = some c) (hset : c.set = []) (hdat : c.data = []) (hb : Below w.heap.size w W9) :
    BPost o w (.returned (.tuple #[.agg (cmdA c (.slice none 0 0) (.slice none 0 0)), .bool true])) W9 :=
  ⟨_, true, rfl, Ag.cmd _ _ _ _ _ _ _, fun _ => ⟨c, _, _, rfl, Lib.hid ho, Lib.hid ⟨_, _, rfl, ⟨none, 0, by rw [hset]; rfl, by rw [hset]; exact Nat.le_refl _, .inl hset⟩, none, 0, by rw [hdat]; rfl, by rw [hdat]; exact Nat.le_refl _, .inl hdat⟩,
    fun b off s n k e => (by injection e with e; cases e), fun b off s n k e => (by injection e with e; cases e)⟩, fun e => (by cases e), hb⟩
end Go.Proofs.YthfopimgdikpgaaGreatDoor
