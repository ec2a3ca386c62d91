/- resp: among. -/
import Derived.Test.YtefodmbaknedkaaVc
import Derived.Test.YtefodmbaknedkaaVa
import Derived.Lib.SmallJoins
import Derived.Lib.LazyBuf
import Derived.Deep.Cut
namespace Go.Proofs.Ytefodmbaknedkaa
open Go.RowKit

set_option maxRecDepth 100000 in
set_option maxHeartbeats 4000000 in
theorem among_go (kind n status items flags uid size : Int) (tag text : ByteArray) (A : Option Addr) (m k : Nat) (q1 q2 q4 q16 : Bool) (e1 : (bits BinOp.and IntKind.i64 items 1 == 0) = q1) (e2 : (bits BinOp.and IntKind.i64 items 2 == 0) = q2) (e4 : (bits BinOp.and IntKind.i64 items 4 == 0) = q4) (e16 : (bits BinOp.and IntKind.i64 items 16 == 0) = q16) (w : World) :
    Calls Try.prog 46 #[.agg #[.int .i64 kind, .int .u32 n, .string tag, .int .i64 status, .string text, .int .i64 items, .int .u8 flags, .int .u32 uid, .int .u32 size, .slice A m k]] w fun e w' => e = .returned (.agg #[.int .i64 kind, .int .u32 n, .string tag, .int .i64 status, .string text, .int .i64 items, .int .u8 (if q1 = true then 0 else flags), .int .u32 (if q2 = true then 0 else uid), .int .u32 (if q4 = true then 0 else size), if q16 = true then .slice none 0 0 else .slice A m k]) ∧ Below w.heap.size w w' := by
  cases q1 <;> cases q2 <;> cases q4 <;> cases q16
  all_goals
    go_enter Try.func46, Try.ntmps46
    go_wp2_with fail
    refine bodyPost_ret (v := .agg #[.int .i64 kind, .int .u32 n, .string tag, .int .i64 status, .string text, .int .i64 items, _, _, _, _]) (by simp [results, Try.results46, go_sem]) rfl ⟨rfl, ?_⟩
    repeat (first | exact Below.refl _ _ | refine Below.setCell ?_ (by simp) _ | refine Below.alloc ?_ (by simp) _)
end Go.Proofs.Ytefodmbaknedkaa

namespace Go.Proofs.Ytefodmbaknedkaa
open Go.RowKit

/-- A response stored whole. -/
def stR (W : World) (r : Nat) (a0 a1 a2 a3 a4 a5 a6 a7 a8 a9 : Value) : World := ((((((((((W.setCell ⟨r, 0, none⟩ a0).setCell ⟨r, 1, none⟩ a1).setCell ⟨r, 2, none⟩ a2).setCell ⟨r, 3, none⟩ a3).setCell ⟨r, 4, none⟩ a4).setCell ⟨r, 5, none⟩ a5).setCell ⟨r, 6, none⟩ a6).setCell ⟨r, 7, none⟩ a7).setCell ⟨r, 8, none⟩ a8).setCell ⟨r, 9, none⟩ a9)
theorem stR_block {W : World} {r : Nat} {c0 c1 c2 c3 c4 c5 c6 c7 c8 c9 : Value} {T : TypeId} (h : W.heap[r]? = some (.cells #[c0, c1, c2, c3, c4, c5, c6, c7, c8, c9] T (0, 0))) (a0 a1 a2 a3 a4 a5 a6 a7 a8 a9 : Value) : (stR W r a0 a1 a2 a3 a4 a5 a6 a7 a8 a9).heap[r]? = some (.cells #[a0, a1, a2, a3, a4, a5, a6, a7, a8, a9] T (0, 0)) := by
  have h0 : (W.setCell ⟨r, 0, none⟩ a0).heap[r]? = some (.cells #[a0, c1, c2, c3, c4, c5, c6, c7, c8, c9] T (0, 0)) := Joins.block_setCell (i := 0) h a0
  have h1 : ((W.setCell ⟨r, 0, none⟩ a0).setCell ⟨r, 1, none⟩ a1).heap[r]? = some (.cells #[a0, a1, c2, c3, c4, c5, c6, c7, c8, c9] T (0, 0)) := Joins.block_setCell (i := 1) h0 a1
  have h2 : (((W.setCell ⟨r, 0, none⟩ a0).setCell ⟨r, 1, none⟩ a1).setCell ⟨r, 2, none⟩ a2).heap[r]? = some (.cells #[a0, a1, a2, c3, c4, c5, c6, c7, c8, c9] T (0, 0)) := Joins.block_setCell (i := 2) h1 a2
  have h3 : ((((W.setCell ⟨r, 0, none⟩ a0).setCell ⟨r, 1, none⟩ a1).setCell ⟨r, 2, none⟩ a2).setCell ⟨r, 3, none⟩ a3).heap[r]? = some (.cells #[a0, a1, a2, a3, c4, c5, c6, c7, c8, c9] T (0, 0)) := Joins.block_setCell (i := 3) h2 a3
  have h4 : (((((W.setCell ⟨r, 0, none⟩ a0).setCell ⟨r, 1, none⟩ a1).setCell ⟨r, 2, none⟩ a2).setCell ⟨r, 3, none⟩ a3).setCell ⟨r, 4, none⟩ a4).heap[r]? = some (.cells #[a0, a1, a2, a3, a4, c5, c6, c7, c8, c9] T (0, 0)) := Joins.block_setCell (i := 4) h3 a4
  have h5 : ((((((W.setCell ⟨r, 0, none⟩ a0).setCell ⟨r, 1, none⟩ a1).setCell ⟨r, 2, none⟩ a2).setCell ⟨r, 3, none⟩ a3).setCell ⟨r, 4, none⟩ a4).setCell ⟨r, 5, none⟩ a5).heap[r]? = some (.cells #[a0, a1, a2, a3, a4, a5, c6, c7, c8, c9] T (0, 0)) := Joins.block_setCell (i := 5) h4 a5
  have h6 : (((((((W.setCell ⟨r, 0, none⟩ a0).setCell ⟨r, 1, none⟩ a1).setCell ⟨r, 2, none⟩ a2).setCell ⟨r, 3, none⟩ a3).setCell ⟨r, 4, none⟩ a4).setCell ⟨r, 5, none⟩ a5).setCell ⟨r, 6, none⟩ a6).heap[r]? = some (.cells #[a0, a1, a2, a3, a4, a5, a6, c7, c8, c9] T (0, 0)) := Joins.block_setCell (i := 6) h5 a6
  have h7 : ((((((((W.setCell ⟨r, 0, none⟩ a0).setCell ⟨r, 1, none⟩ a1).setCell ⟨r, 2, none⟩ a2).setCell ⟨r, 3, none⟩ a3).setCell ⟨r, 4, none⟩ a4).setCell ⟨r, 5, none⟩ a5).setCell ⟨r, 6, none⟩ a6).setCell ⟨r, 7, none⟩ a7).heap[r]? = some (.cells #[a0, a1, a2, a3, a4, a5, a6, a7, c8, c9] T (0, 0)) := Joins.block_setCell (i := 7) h6 a7
  have h8 : (((((((((W.setCell ⟨r, 0, none⟩ a0).setCell ⟨r, 1, none⟩ a1).setCell ⟨r, 2, none⟩ a2).setCell ⟨r, 3, none⟩ a3).setCell ⟨r, 4, none⟩ a4).setCell ⟨r, 5, none⟩ a5).setCell ⟨r, 6, none⟩ a6).setCell ⟨r, 7, none⟩ a7).setCell ⟨r, 8, none⟩ a8).heap[r]? = some (.cells #[a0, a1, a2, a3, a4, a5, a6, a7, a8, c9] T (0, 0)) := Joins.block_setCell (i := 8) h7 a8
  have h9 : ((((((((((W.setCell ⟨r, 0, none⟩ a0).setCell ⟨r, 1, none⟩ a1).setCell ⟨r, 2, none⟩ a2).setCell ⟨r, 3, none⟩ a3).setCell ⟨r, 4, none⟩ a4).setCell ⟨r, 5, none⟩ a5).setCell ⟨r, 6, none⟩ a6).setCell ⟨r, 7, none⟩ a7).setCell ⟨r, 8, none⟩ a8).setCell ⟨r, 9, none⟩ a9).heap[r]? = some (.cells #[a0, a1, a2, a3, a4, a5, a6, a7, a8, a9] T (0, 0)) := Joins.block_setCell (i := 9) h8 a9
  exact h9
theorem stR_grown (W : World) (r : Nat) (a0 a1 a2 a3 a4 a5 a6 a7 a8 a9 : Value) : W.grownBy (stR W r a0 a1 a2 a3 a4 a5 a6 a7 a8 a9) (some r) := grown_set (grown_set (grown_set (grown_set (grown_set (grown_set (grown_set (grown_set (grown_set (grown_set (World.grownBy.refl W (some r)) 0 a0) 1 a1) 2 a2) 3 a3) 4 a4) 5 a5) 6 a6) 7 a7) 8 a8) 9 a9
/-- Two new blocks behind a call that makes memory. -/
theorem two_new {w w1 : World} {o1 o2 : Obj} (hb : Below ((w.alloc o1).alloc o2).heap.size ((w.alloc o1).alloc o2) w1) : w1.heap[w.heap.size]? = some o1 ∧ w1.heap[w.heap.size + 1]? = some o2 ∧ Below w.heap.size w w1 ∧ w.heap.size + 2 ≤ w1.heap.size := by
  have hx := heap_alloc_new (w.alloc o1) o2
  rw [World.size_alloc] at hx
  have hz := hb.size
  rw [World.size_alloc, World.size_alloc] at hz
  exact ⟨(hb.block _ (by simp; omega)).trans (((below_al (w.alloc o1) o2).block w.heap.size (by simp)).trans (heap_alloc_new w o1)), (hb.block _ (by simp)).trans hx, below_next (below_2box w o1 o2) hb, hz⟩
theorem below_st {w w1 W : World} {r : Nat} (h : Below w.heap.size w w1) (hg : w1.grownBy W (some r)) (hr : w.heap.size ≤ r) : Below w.heap.size w W := h.grown hg h.size (fun j hj => by cases hj; exact hr)
end Go.Proofs.Ytefodmbaknedkaa

namespace Go.Proofs.Ytefodmbaknedkaa
open Go.RowKit

set_option maxRecDepth 100000 in
set_option maxHeartbeats 1000000 in
theorem vcount_any (kind : Int) (n : Nat) (hn : n ≤ 4294967295) (w : World) :
    Calls Try.prog 40 #[.int .i64 kind, .int .i64 (n : Int)] w fun e w' => e = .returned (.agg #[.int .i64 kind, .int .u32 (n : Int), .string ⟨#[]⟩, .int .i64 0, .string ⟨#[]⟩, .int .i64 0, .int .u8 0, .int .u32 0, .int .u32 0, .slice none 0 0]) ∧ Below w.heap.size w w' := by
  have h1 : IntKind.u32.wrap (n : Int) = (n : Int) := by simp [IntKind.wrap, IntKind.bits, IntKind.signed]; omega
  go_enter Try.func40, Try.ntmps40
  go_wp2_with fail
  refine bodyPost_ret (v := .agg #[.int .i64 kind, .int .u32 (n : Int), .string ⟨#[]⟩, .int .i64 0, .string ⟨#[]⟩, .int .i64 0, .int .u8 0, .int .u32 0, .int .u32 0, .slice none 0 0]) (by simp [results, Try.results40, go_sem]) rfl ⟨rfl, ?_⟩
  repeat (first | exact Below.refl _ _ | refine Below.setCell ?_ (by simp) _ | refine Below.alloc ?_ (by simp) _)

set_option maxRecDepth 100000 in
theorem bclone_nil (w : World) : Calls Try.prog 47 #[.slice none 0 0] w fun e w' => e = .returned (.slice none 0 0) ∧ w = w' := by
  have q22 := fun (w : World) (a : Option Addr) (l c : Nat) => run_eql_slice_nil (P := Try.prog) w 45 5 a l c Try.underlying45
  go_enter Try.func47, Try.ntmps47
  go_wp2_with fail
  go_ret
  exact ⟨rfl, rfl⟩

set_option maxRecDepth 100000 in
set_option maxHeartbeats 4000000 in
theorem vmsg_any (seq : Nat) (hseq : seq ≤ 4294967295) (f : Int) (w : World) :
    Calls Try.prog 42 #[.int .i64 (seq : Int), .int .i64 1, .agg #[.int .u32 0, .int .u8 f, .slice none 0 0]] w fun e w' => e = .returned (.agg #[.int .i64 4, .int .u32 (seq : Int), .string ⟨#[]⟩, .int .i64 0, .string ⟨#[]⟩, .int .i64 1, .int .u8 f, .int .u32 0, .int .u32 0, .slice none 0 0]) ∧ Below w.heap.size w w' := by
  have AM := Lib.hid (fun W => among_go 4 (seq : Int) 0 1 f 0 0 ⟨#[]⟩ ⟨#[]⟩ none 0 0 false true true true (by decide) (by decide) (by decide) (by decide) W)
  simp only [if_true, if_false, Bool.false_eq_true] at AM
  have h1 : IntKind.u32.wrap (seq : Int) = (seq : Int) := by simp [IntKind.wrap, IntKind.bits, IntKind.signed]; omega
  go_enter Try.func42, Try.ntmps42
  go_wp2_with fail
  refine (AM.out _).mono ?_
  rintro e w2 ⟨rfl, hb⟩
  obtain ⟨-, hz, hB, hzz⟩ := two_new hb
  have HZ := Lib.hid hz
  have HB2 := Lib.hid hB
  have HZZ := Lib.hid hzz
  have R3 := Lib.hid (heap_alloc_new w2 (.cells #[.int .i64 4, .int .u32 (seq : Int), .string ⟨#[]⟩, .int .i64 0, .string ⟨#[]⟩, .int .i64 1, .int .u8 f, .int .u32 0, .int .u32 0, .slice none 0 0] 47))
  have CL := Lib.hid bclone_nil
  clear hb hz hB hzz AM
  go_wp2_with fail
  refine (CL.out _).mono ?_
  rintro e w4 ⟨rfl, rfl⟩
  clear CL
  obtain ⟨x0, x1, x2, x3, x4, x5, x6, x7, x8, x9⟩ := cells10 R3.out
  have f9 := Joins.unfrozen_of_block R3.out 9
  have HA3 := Lib.hid (below_al w2 (.cells #[.int .i64 4, .int .u32 (seq : Int), .string ⟨#[]⟩, .int .i64 0, .string ⟨#[]⟩, .int .i64 1, .int .u8 f, .int .u32 0, .int .u32 0, .slice none 0 0] 47))
  have HB4 := Lib.hid (below_next HB2.out HA3.out)
  have HZ4 := Lib.hid ((HA3.out.block (w.heap.size + 1) (by have := HZZ.out; omega)).trans HZ.out)
  have HS4 := Lib.hid (show w2.heap.size < (w2.alloc (.cells #[.int .i64 4, .int .u32 (seq : Int), .string ⟨#[]⟩, .int .i64 0, .string ⟨#[]⟩, .int .i64 1, .int .u8 f, .int .u32 0, .int .u32 0, .slice none 0 0] 47)).heap.size by simp)
  generalize (w2.alloc (.cells #[.int .i64 4, .int .u32 (seq : Int), .string ⟨#[]⟩, .int .i64 0, .string ⟨#[]⟩, .int .i64 1, .int .u8 f, .int .u32 0, .int .u32 0, .slice none 0 0] 47)) = w4 at *
  go_upto_region 5 with (fail)
  have hq5 := Joins.block_setCell (i := 9) R3.out (.slice none 0 0)
  have HG5 := Lib.hid (show w4.grownBy (w4.setCell ⟨w2.heap.size, 9, none⟩ (.slice none 0 0)) (some w2.heap.size) from grown_setCell _ _ _ _)
  have hz5 := (HG5.out.block (w.heap.size + 1) (by have := HZZ.out; have := HS4.out; omega) (fun e => by have := Option.some.inj e; have := HZZ.out; omega)).trans HZ4.out
  have HB5 := Lib.hid (HB4.out.grown HG5.out HB4.out.size (fun j hj => by cases hj; have := HZZ.out; omega))
  clear x0 x1 x2 x3 x4 x5 x6 x7 x8 x9 f9
  generalize w4.setCell ⟨w2.heap.size, 9, none⟩ (.slice none 0 0) = w5 at *
  obtain ⟨x0, x1, x2, x3, x4, x5, x6, x7, x8, x9⟩ := cells10 (show w5.heap[w2.heap.size]? = some (.cells #[.int .i64 4, .int .u32 (seq : Int), .string ⟨#[]⟩, .int .i64 0, .string ⟨#[]⟩, .int .i64 1, .int .u8 f, .int .u32 0, .int .u32 0, .slice none 0 0] 47 (0, 0)) from hq5)
  obtain ⟨d0, d1, d2, d3, d4, d5, d6, d7, d8, d9⟩ := cells10 hz5
  have g0 := Joins.unfrozen_of_block hz5 0
  have g1 := Joins.unfrozen_of_block hz5 1
  have g2 := Joins.unfrozen_of_block hz5 2
  have g3 := Joins.unfrozen_of_block hz5 3
  have g4 := Joins.unfrozen_of_block hz5 4
  have g5 := Joins.unfrozen_of_block hz5 5
  have g6 := Joins.unfrozen_of_block hz5 6
  have g7 := Joins.unfrozen_of_block hz5 7
  have g8 := Joins.unfrozen_of_block hz5 8
  have g9 := Joins.unfrozen_of_block hz5 9
  have HZ5 := Lib.hid hz5
  clear hq5 hz5
  go_wp2_with fail
  change bodyPost _ _ _ _ _ (stR w5 (w.heap.size + 1) (.int .i64 4) (.int .u32 (seq : Int)) (.string ⟨#[]⟩) (.int .i64 0) (.string ⟨#[]⟩) (.int .i64 1) (.int .u8 f) (.int .u32 0) (.int .u32 0) (.slice none 0 0))
  have hq := stR_block HZ5.out (.int .i64 4) (.int .u32 (seq : Int)) (.string ⟨#[]⟩) (.int .i64 0) (.string ⟨#[]⟩) (.int .i64 1) (.int .u8 f) (.int .u32 0) (.int .u32 0) (.slice none 0 0)
  have HG := Lib.hid (stR_grown w5 (w.heap.size + 1) (.int .i64 4) (.int .u32 (seq : Int)) (.string ⟨#[]⟩) (.int .i64 0) (.string ⟨#[]⟩) (.int .i64 1) (.int .u8 f) (.int .u32 0) (.int .u32 0) (.slice none 0 0))
  have HB9 := Lib.hid (below_st HB5.out HG.out (by omega))
  generalize stR w5 (w.heap.size + 1) (.int .i64 4) (.int .u32 (seq : Int)) (.string ⟨#[]⟩) (.int .i64 0) (.string ⟨#[]⟩) (.int .i64 1) (.int .u8 f) (.int .u32 0) (.int .u32 0) (.slice none 0 0) = w9 at *
  clear x0 x1 x2 x3 x4 x5 x6 x7 x8 x9 d0 d1 d2 d3 d4 d5 d6 d7 d8 d9 g0 g1 g2 g3 g4 g5 g6 g7 g8 g9
  obtain ⟨q0, q1', q2', q3, q4', q5, q6, q7, q8, q9⟩ := cells10 hq
  refine bodyPost_ret (v := .agg #[.int .i64 4, .int .u32 (seq : Int), .string ⟨#[]⟩, .int .i64 0, .string ⟨#[]⟩, .int .i64 1, .int .u8 f, .int .u32 0, .int .u32 0, .slice none 0 0]) (by simp [results, Try.results42, go_sem, q0, q1', q2', q3, q4', q5, q6, q7, q8, q9]) rfl ?_
  exact ⟨rfl, HB9.out⟩
end Go.Proofs.Ytefodmbaknedkaa
