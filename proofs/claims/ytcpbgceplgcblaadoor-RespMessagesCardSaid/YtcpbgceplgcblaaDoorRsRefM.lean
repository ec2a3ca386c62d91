/- The reference of layer 9: Message. -/
import Derived.Test.YtcpbgceplgcblaaDoorGe
import Derived.Test.YtcpbgceplgcblaaDoorGb
import Derived.Deep.Cut
import Derived.Deep.DeepCutAuto
namespace Go.Proofs.YtcpbgceplgcblaaDoor
open Go.RowKit

/-- The reference's response, by which items are asked for. -/
def rmI (q1 q2 q4 q24 : Bool) : Int := (if q1 = true then 1 else 0) + (if q2 = true then 2 else 0) + (if q4 = true then 4 else 0) + (if q24 = true then 16 else 0)
theorem items32 : ∀ n : Fin 32, (rsBit (n.val : Int) 8 = true → True) ∧ msgI (n.val : Int) = rmI (rsBit (n.val : Int) 1) (rsBit (n.val : Int) 2) (rsBit (n.val : Int) 4) (rsBit (n.val : Int) 24) ∧ rsBit (msgI (n.val : Int)) 1 = rsBit (n.val : Int) 1 ∧ rsBit (msgI (n.val : Int)) 2 = rsBit (n.val : Int) 2 ∧ rsBit (msgI (n.val : Int)) 4 = rsBit (n.val : Int) 4 ∧ rsBit (msgI (n.val : Int)) 16 = rsBit (n.val : Int) 24 ∧ (0 ≤ msgI (n.val : Int) ∧ msgI (n.val : Int) ≤ 31) ∧ rsBit (msgI (n.val : Int)) 8 = false ∧ (msgI (n.val : Int) = 0 ↔ n.val = 0) := by decide +kernel

theorem cells3m {W : World} {g : Nat} {a0 a1 a2 : Value} {T : TypeId} {z : Nat × Nat} (h : W.heap[g]? = some (.cells #[a0, a1, a2] T z)) : W.cell? ⟨g, 0, none⟩ = some a0 ∧ W.cell? ⟨g, 1, none⟩ = some a1 ∧ W.cell? ⟨g, 2, none⟩ = some a2 :=
  ⟨cell_of_row _ _ 0 _ _ _ h, cell_of_row _ _ 1 _ _ _ h, cell_of_row _ _ 2 _ _ _ h⟩
theorem wp_name {P : Program} {c : Code} {Q : Exit → Act → World → Prop} {a : Act} {W0 : World} (h : ∀ W, W0 = W → c.wp P Q a W) : c.wp P Q a W0 := h W0 rfl
theorem three_new {w : World} {o1 o2 o3 : Obj} : (((w.alloc o1).alloc o2).alloc o3).heap[w.heap.size]? = some o1 ∧ (((w.alloc o1).alloc o2).alloc o3).heap[w.heap.size + 1]? = some o2 ∧ (((w.alloc o1).alloc o2).alloc o3).heap[w.heap.size + 1 + 1]? = some o3 ∧ Below w.heap.size w (((w.alloc o1).alloc o2).alloc o3) ∧ (((w.alloc o1).alloc o2).alloc o3).heap.size = w.heap.size + 3 := by
  have h3 := heap_alloc_new ((w.alloc o1).alloc o2) o3
  rw [World.size_alloc, World.size_alloc] at h3
  obtain ⟨h1, h2, hb, _⟩ := two_new (below_al ((w.alloc o1).alloc o2) o3)
  exact ⟨h1, h2, h3, hb, by simp⟩

set_option maxRecDepth 100000 in
set_option maxHeartbeats 4000000 in
theorem rmsg_go (R : RI) (seq : Nat) (hseq : seq ≤ 4294967295) (items : Int) (q1 q2 q4 q24 : Bool) (e1 : (bits BinOp.and IntKind.i64 items 1 != 0) = q1) (e2 : (bits BinOp.and IntKind.i64 items 2 != 0) = q2) (e4 : (bits BinOp.and IntKind.i64 items 4 != 0) = q4) (e24 : (bits BinOp.and IntKind.i64 items 24 != 0) = q24)
    (uid flags : Nat) (body : List UInt8) (hb : body.length ≤ 1000) (A : Option Addr) (c n : Nat) (hn : body.length = n) (w : World) (hA : ByAt w.heap.size w A c body)
    (HR : Hid (R.items = rmI q1 q2 q4 q24 ∧ (R.flags : Int) = (if q1 = true then (flags : Int) else 0) ∧ (R.uid : Int) = (if q2 = true then (uid : Int) else 0) ∧ (R.size : Int) = (if q4 = true then (n : Int) else 0))) (hbd : R.body = if q24 = true then body else []) (hRk : R.kind = 4 ∧ R.n = seq ∧ R.tag = [] ∧ R.status = 0 ∧ R.text = []) :
    Calls Tryd.prog 24 #[.int .i64 (seq : Int), .int .i64 items, .agg #[.int .u32 (uid : Int), .int .u8 (flags : Int), .slice A n c]] w (MsPost R w) := by
  obtain ⟨i0, hi, hz0, hz1, hz2⟩ := info_parts infoByte
  have h1 : IntKind.u32.wrap (seq : Int) = (seq : Int) := by simp [IntKind.wrap, IntKind.bits, IntKind.signed]; omega
  have h2 : IntKind.u32.wrap (n : Int) = (n : Int) := by simp [IntKind.wrap, IntKind.bits, IntKind.signed]; omega
  have HA := Lib.hid hA
  have HN := Lib.hid hn
  have HBD := Lib.hid hbd
  have HRV := Lib.hid (show ∀ A' k', rsV R A' k' = .agg #[.int .i64 4, .int .u32 (seq : Int), .string ⟨#[]⟩, .int .i64 0, .string ⟨#[]⟩, .int .i64 R.items, .int .u8 (R.flags : Int), .int .u32 (R.uid : Int), .int .u32 (R.size : Int), .slice A' R.body.length k'] from fun A' k' => by
    obtain ⟨a1, a2, a3, a4, a5⟩ := hRk
    unfold rsV
    rw [a1, a2, a3, a4, a5])
  have hn1 : n ≤ 1000 := by rw [← hn]; exact hb
  have HSEQ := Lib.hid hseq
  clear hA hn hbd hRk hb hseq
  cases q1 <;> cases q2 <;> cases q4
  all_goals
    cases q24 with
    | false =>
      have H5 := Lib.hid (show R.body = [] by rw [HBD.out]; rfl)
      go_enter Tryd.func24, Tryd.ntmps24
      go_wp2_with fail
      refine bodyPost_ret (v := .agg #[.int .i64 4, .int .u32 (seq : Int), .string ⟨#[]⟩, .int .i64 0, .string ⟨#[]⟩, .int .i64 _, .int .u8 _, .int .u32 _, .int .u32 _, .slice none 0 0]) (by simp [results, Tryd.results24, go_sem]; exact ⟨rfl, rfl, rfl, rfl⟩) rfl ?_
      refine ⟨none, 0, ?_, by rw [H5.out]; exact World.ownsRow_nil _ _ _ _, by repeat (first | exact Below.refl _ _ | refine belDrawN ?_ _ | refine belDraw ?_ | refine belAlloc ?_ _)⟩
      rw [HRV.out, H5.out]
      obtain ⟨a1, a2, a3, a4⟩ := HR.out
      rw [a1, a2, a3, a4]
      rfl
    | true =>
      have H5 := Lib.hid (show R.body = body by rw [HBD.out]; rfl)
      go_enter Tryd.func24, Tryd.ntmps24
      go_upto_region 13 with (fail)
      refine wp_name fun W hW => ?_
      obtain ⟨m1, m2, m3, m4, m5⟩ := three_new (w := w) (o1 := .cells #[.int .u32 (uid : Int), .int .u8 (flags : Int), .slice A n c] 45) (o2 := .cells #[.int .i64 0, .int .u32 0, .string ⟨#[]⟩, .int .i64 0, .string ⟨#[]⟩, .int .i64 0, .int .u8 0, .int .u32 0, .int .u32 0, .slice none 0 0] 26) (o3 := .cells #[.int .i64 4, .int .u32 (seq : Int), .string ⟨#[]⟩, .int .i64 0, .string ⟨#[]⟩, .int .i64 R.items, .int .u8 (R.flags : Int), .int .u32 (R.uid : Int), .int .u32 (R.size : Int), .slice none 0 0] 26)
      have hW2 : ((w.alloc (.cells #[.int .u32 (uid : Int), .int .u8 (flags : Int), .slice A n c] 45)).alloc (.cells #[.int .i64 0, .int .u32 0, .string ⟨#[]⟩, .int .i64 0, .string ⟨#[]⟩, .int .i64 0, .int .u8 0, .int .u32 0, .int .u32 0, .slice none 0 0] 26)).alloc (.cells #[.int .i64 4, .int .u32 (seq : Int), .string ⟨#[]⟩, .int .i64 0, .string ⟨#[]⟩, .int .i64 R.items, .int .u8 (R.flags : Int), .int .u32 (R.uid : Int), .int .u32 (R.size : Int), .slice none 0 0] 26) = W := by
        rw [← hW]
        obtain ⟨a1, a2, a3, a4⟩ := HR.out
        rw [a1, a2, a3, a4]
        rfl
      rw [hW2] at m1 m2 m3 m4 m5
      clear hW hW2
      obtain ⟨d0, d1, d2⟩ := cells3m m1
      have HZ := Lib.hid m2
      have HR3 := Lib.hid m3
      have HB := Lib.hid m4
      have HSZ := Lib.hid m5
      have HAW := Lib.hid ((HA.out.below m4).here.below (below_al W (.cells #[] 5)))
      have HOE := Lib.hid (own_empty (sz := 1) (heap_alloc_new W (.cells #[] 5)) (Nat.le_refl _))
      have H63 := Lib.hid (show 0 + body.length ≤ maxLen by rw [HN.out]; unfold maxLen; omega)
      have HBY := Lib.hid (show (0 + body.length) * 1 ≤ 140737488355328 by rw [HN.out]; omega)
      have HB0 := Lib.hid (below_al W (.cells #[] 5))
      have HSZ0 := Lib.hid HB0.out.size
      have HN1 := Lib.hid (show Value.slice A body.length c = Value.slice A n c by rw [HN.out])
      have hl0 : w.heap.size < W.heap.size := by rw [m5]; omega
      have hl2 : w.heap.size + 1 + 1 < W.heap.size := by rw [m5]; omega
      have hl1 : w.heap.size + 1 < W.heap.size := by rw [m5]; omega
      clear m1 m2 m3 m4 m5
      go_upto_region 14 with (at_builtin; refine wpList_append_sl _ rfl _ _ 24 rfl W.heap.size 5 i0 _ 1 Tryd.underlying24 hi hz0 hz1 hz2 rfl (by decide) _ 0 [] rfl HOE.out A body c (by rw [HN.out]; rfl) encB_len HAW.out.sl (one_flatB body) H63.out HBY.out HSZ0.out ?_; intro v2 w2 hown2 hg2; rw [Nat.zero_add, List.nil_append, HN.out] at hown2; obtain ⟨A6, k6, rfl⟩ := own_any hown2; have HB2 := Lib.hid (HB0.out.grown hg2 HSZ0.out (fun kk hkk => (HOE.out.lt kk hkk).1)); have HO := Lib.hid hown2; have hR5 := (HB2.out.block (w.heap.size + 1 + 1) hl2).trans HR3.out; have f9 := Joins.unfrozen_of_block hR5 9; have HR5 := Lib.hid hR5; obtain ⟨-, -, -, -, -, -, -, -, -, x9⟩ := cells10 hR5; clear hown2 hg2 hR5)
      have HSW := Lib.hid HB2.out.size
      have HZ5 := Lib.hid ((HB2.out.block (w.heap.size + 1) hl1).trans HZ.out)
      have HBW := Lib.hid (below_next HB.out HB2.out)
      have hq5 := Joins.block_setCell (i := 9) HR5.out (.slice A6 n k6)
      have HG5 := Lib.hid (show w2.grownBy (w2.setCell ⟨w.heap.size + 1 + 1, 9, none⟩ (.slice A6 n k6)) (some (w.heap.size + 1 + 1)) from grown_setCell _ _ _ _)
      have hz5 := (HG5.out.block (w.heap.size + 1) (by have := HSW.out; omega) (fun e => by have := Option.some.inj e; omega)).trans HZ5.out
      have HB5 := Lib.hid (HBW.out.grown HG5.out HBW.out.size (fun j hj => by cases hj; omega))
      have HO5 := Lib.hid (own_past9 HO.out HG5.out (by omega))
      clear x9 f9 d0 d1 d2
      generalize w2.setCell ⟨w.heap.size + 1 + 1, 9, none⟩ (.slice A6 n k6) = w5 at *
      obtain ⟨x0, x1, x2, x3, x4, x5, x6, x7, x8, x9⟩ := cells10 (show w5.heap[w.heap.size + 1 + 1]? = some (.cells #[.int .i64 4, .int .u32 (seq : Int), .string ⟨#[]⟩, .int .i64 0, .string ⟨#[]⟩, .int .i64 R.items, .int .u8 (R.flags : Int), .int .u32 (R.uid : Int), .int .u32 (R.size : Int), .slice A6 n k6] 26 (0, 0)) from hq5)
      obtain ⟨d0, d1, d2, d3, d4, d5, d6, d7, d8, d9⟩ := cells10 hz5
      have g0 := Joins.unfrozen_of_block hz5 0
      have g1 := Joins.unfrozen_of_block hz5 1
      have g2 := Joins.unfrozen_of_block hz5 2
      have g3 := Joins.unfrozen_of_block hz5 3
      have g4 := Joins.unfrozen_of_block hz5 4
      have g5 := Joins.unfrozen_of_block hz5 5
      have g6 := Joins.unfrozen_of_block hz5 6
      have g7 := Joins.unfrozen_of_block hz5 7
      have g8 := Joins.unfrozen_of_block hz5 8
      have g9 := Joins.unfrozen_of_block hz5 9
      have HZ6 := Lib.hid hz5
      clear hq5 hz5
      go_wp2_with fail
      change bodyPost _ _ _ _ _ (stR w5 (w.heap.size + 1) (.int .i64 4) (.int .u32 (seq : Int)) (.string ⟨#[]⟩) (.int .i64 0) (.string ⟨#[]⟩) (.int .i64 R.items) (.int .u8 (R.flags : Int)) (.int .u32 (R.uid : Int)) (.int .u32 (R.size : Int)) (.slice A6 n k6))
      have hq := stR_block HZ6.out (.int .i64 4) (.int .u32 (seq : Int)) (.string ⟨#[]⟩) (.int .i64 0) (.string ⟨#[]⟩) (.int .i64 R.items) (.int .u8 (R.flags : Int)) (.int .u32 (R.uid : Int)) (.int .u32 (R.size : Int)) (.slice A6 n k6)
      have HG := Lib.hid (stR_grown w5 (w.heap.size + 1) (.int .i64 4) (.int .u32 (seq : Int)) (.string ⟨#[]⟩) (.int .i64 0) (.string ⟨#[]⟩) (.int .i64 R.items) (.int .u8 (R.flags : Int)) (.int .u32 (R.uid : Int)) (.int .u32 (R.size : Int)) (.slice A6 n k6))
      have HB9 := Lib.hid (below_st HB5.out HG.out (by omega))
      have HO9 := Lib.hid (own_past9 HO5.out HG.out (by omega))
      generalize stR w5 (w.heap.size + 1) (.int .i64 4) (.int .u32 (seq : Int)) (.string ⟨#[]⟩) (.int .i64 0) (.string ⟨#[]⟩) (.int .i64 R.items) (.int .u8 (R.flags : Int)) (.int .u32 (R.uid : Int)) (.int .u32 (R.size : Int)) (.slice A6 n k6) = w9 at *
      clear x0 x1 x2 x3 x4 x5 x6 x7 x8 x9 d0 d1 d2 d3 d4 d5 d6 d7 d8 d9 g0 g1 g2 g3 g4 g5 g6 g7 g8 g9
      obtain ⟨p0, p1, p2, p3, p4, p5, p6, p7, p8, p9⟩ := cells10 hq
      refine bodyPost_ret (v := .agg #[.int .i64 4, .int .u32 (seq : Int), .string ⟨#[]⟩, .int .i64 0, .string ⟨#[]⟩, .int .i64 R.items, .int .u8 (R.flags : Int), .int .u32 (R.uid : Int), .int .u32 (R.size : Int), .slice A6 n k6]) (by simp [results, Tryd.results24, go_sem, p0, p1, p2, p3, p4, p5, p6, p7, p8, p9]) rfl ?_
      exact ⟨A6, k6, by rw [HRV.out, H5.out, HN.out], by rw [H5.out, HN.out]; exact own_base9 HO9.out (by omega), HB9.out⟩
end Go.Proofs.YtcpbgceplgcblaaDoor
