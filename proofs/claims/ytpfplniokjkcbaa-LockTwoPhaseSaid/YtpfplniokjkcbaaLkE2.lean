/- The lock table: Acquire's walk where it succeeds. -/
import Derived.Test.YtpfplniokjkcbaaLkE
import Derived.Deep.CutBlock
namespace Go.Proofs.Ytpfplniokjkcbaa
open Go.RowKit Go.Maps

section
variable {R : LR} {g q : Nat} {S : Nat → Prop} {L : List Int} {w : World}
set_option maxRecDepth 100000 in
set_option maxHeartbeats 2000000 in
/-- The lock is acquired. -/
theorem acq_go (o : Int) (ho2 : I64 o) (k : Nat) (ho : 0 ≤ o) (hk : k < L.length) (hf : ownL L k < 0) (hv : ¬ overL L o k) (hq : q ≤ 1000000) (h : LkX R g S L q w) :
    Calls Try.prog 15 #[.pointer (some ⟨g, 0, none⟩), .int .i64 o, .int .i64 (k : Int)] w fun e w' => e = .returned (.int .i64 0) ∧ ∃ S', LkT g S' (L.set k o) (q + 1) w' ∧ More S S' w ∧ KeptO S w w' := by
  obtain ⟨i0, hi, hz0, hz1, hz2⟩ := info_parts infoI14b
  obtain ⟨c0, c1, c2, c3⟩ := h.cells
  have hl := h.len
  have kI : I64 (k : Int) := ⟨by omega, by omega⟩
  have C := lkholds_x o (k : Int) kI h
  rw [decide_eq_false fun e => by have := e.1; omega] at C
  have C := Lib.hid C
  have hlk : (Instr.lookup 60 (.map (some R.hb)) (.int .i64 o) false).run Try.prog w = .ok (R.val L o) w := h.lookH ho2 0
  have hlo : (Instr.lookup 59 (.map (some R.ob)) (.int .i64 (k : Int)) true).run Try.prog w = .ok (.tuple #[.int .i64 (max (ownL L k) 0), .bool (decide (0 ≤ ownL L k))]) w := h.lookO kI 0
  rw [decide_eq_false (by omega)] at hlo
  have k0 : (0 : Int) ≤ (k : Int) := by omega
  have k1 : ¬ (L.length : Int) ≤ (k : Int) := by omega
  generalize max (ownL L k) 0 = xo at *
  -- the first store
  obtain ⟨co, lo, mo⟩ := h.mo
  obtain ⟨ch, lh, mh⟩ := h.mh
  obtain ⟨w1, hst1, M1, G1⟩ := mo.store (t := 59) Try.underlying59 (by unfold maxLen; omega) kI (.int .i64 o)
  have M1t := M1.tight
  have lg := h.lt _ h.sg
  have z1 := G1.size
  have X1 := h.go
  have d2 : w1.cell? ⟨g, 2, none⟩ = some (.map (some R.hb)) := G1.cell c2 (fun e => X1 (Option.some.inj e))
  have d2a : (w1.alloc (.cells #[.int .i64 (k : Int)] 3)).cell? ⟨g, 2, none⟩ = some (.map (some R.hb)) := (World.cell?_alloc_lt w1 _ ⟨g, 2, none⟩ (Nat.lt_of_lt_of_le lg z1)).trans d2
  have d3 : w1.cell? ⟨g, 3, none⟩ = some (.int .i64 (q : Int)) := G1.cell c3 (fun e => X1 (Option.some.inj e))
  have tb1 : w1.heap[g]? = some (.cells #[.int .i64 (L.length : Int), .map (some R.ob), .map (some R.hb), .int .i64 (q : Int)] 67 (0, 0)) := (G1.block g lg fun e => X1 (Option.some.inj e)).trans h.tb
  have OW : w1.ownsRow 0 3 1 (R.val L o) (heldL L o).length (flatL encK (heldL L o)) := own_blk (h.row o) fun e => G1.block _ (h.lt _ (h.sr o e)) fun e2 => (h.rk o e).2.1 (Option.some.inj e2)
  have MH : MapZ w1 R.hb ch (GH R L) ch := mh.at_ (G1.block _ (h.lt _ h.sh) fun e => h.oh (Option.some.inj e).symm)
  have HB := Lib.hid (show Below w1.heap.size w1 (w1.alloc (.cells #[.int .i64 (k : Int)] 3)).drew from belowDraw (below_al w1 _))
  -- what stands behind append and the second store
  have HA := Lib.hid (fun v1 w2 (hown : w2.ownsRow 0 3 1 v1 ((heldL L o).length + [k].length) (flatL encK (heldL L o) ++ flatL encK [k])) (G2 : (w1.alloc (.cells #[.int .i64 (k : Int)] 3)).drew.grownBy w2 (R.val L o).ownBlock) (hfr : v1.ownBlock = (R.val L o).ownBlock ∨ v1.ownBlock = some (w1.alloc (.cells #[.int .i64 (k : Int)] 3)).drew.heap.size) => (by
    have ng : some g ≠ (R.val L o).ownBlock := fun e => by obtain ⟨h1, h2⟩ := LR.val_ob e.symm; exact (h.rk o h1).1 h2.symm
    have nh : some R.hb ≠ (R.val L o).ownBlock := fun e => by obtain ⟨h1, h2⟩ := LR.val_ob e.symm; exact (h.rk o h1).2.2 h2.symm
    have b0 := HB.out.size
    have t2 : w2.heap[g]? = _ := (G2.block g (by omega) ng).trans ((HB.out.block g (by omega)).trans tb1)
    have m2 : MapZ w2 R.hb ch (GH R L) ch := MH.at_ ((G2.block _ (by have := MH.lt; omega) nh).trans (HB.out.block _ MH.lt))
    obtain ⟨w3, hst3, M3, G3⟩ := m2.store (t := 60) Try.underlying60 (by unfold maxLen; omega) ho2 v1
    have t3 : w3.heap[g]? = _ := (G3.block g (by have := G2.size; omega) fun e => h.gh (Option.some.inj e)).trans t2
    have hAC := h.acq ho hk hf hv (w1 := w1) (w2 := w2) (w3 := w3) (M1t) (by split <;> omega) G1 HB.out hown G2 hfr M3.tight (by split <;> omega) G3
    refine ⟨w3, cell_of_row _ _ 2 _ _ _ t2, hst3, Lib.hid (addi64_any ⟨g, 3, none⟩ (q : Int) (by omega) (by omega) w3 (cell_of_row _ _ 3 _ _ _ t3) (Joins.unfrozen_of_block t3 3)), Lib.hid hAC⟩ :
      ∃ w3, w2.cell? ⟨g, 2, none⟩ = some (.map (some R.hb)) ∧ (Instr.mapUpdate 60 (.map (some R.hb)) (.int .i64 o) v1).run Try.prog w2 = .ok () w3 ∧
        Hid (Calls Try.prog 31 #[.pointer (some ⟨g, 3, none⟩), .int .i64 1] w3 fun e w' => e = .returned (.int .i64 ((q : Int) + 1)) ∧ w' = w3.setCell ⟨g, 3, none⟩ (.int .i64 ((q : Int) + 1))) ∧
        Hid (∃ S', LkT g S' (L.set k o) (q + 1) (w3.setCell ⟨g, 3, none⟩ (.int .i64 ((q : Int) + 1))) ∧ More S S' w ∧ KeptO S w (w3.setCell ⟨g, 3, none⟩ (.int .i64 ((q : Int) + 1))))))
  have hn := heldL_len L o
  obtain ⟨A, c, hV, hSl, hcap⟩ := h.sl o
  have HOW := Lib.hid OW
  have h63 : (heldL L o).length + [k].length ≤ maxLen := by simp only [List.length_singleton, maxLen]; omega
  have h64 : ((heldL L o).length + [k].length) * 8 ≤ 140737488355328 := by simp only [List.length_singleton]; omega
  have LA := h.last o
  clear hSl hcap
  rw [hV] at hlk HA HOW LA
  clear hV OW MH M1 M1t G1 mo mh tb1 lo lh lg X1 z1 hn hl hq hf kI
  generalize hxs : flatL encK (heldL L o) = xs at HA HOW
  clear hxs
  have LB : (c = c ∧ A = none ∧ (heldL L o).length = 0) ∨ ∃ (b off n m : Nat) (y : Nat), A = some ⟨b, off, none⟩ ∧ (heldL L o).length = n ∧ n = m + 1 ∧ w.cell? ⟨b, off + m, none⟩ = some (.int .i64 (y : Int)) ∧ ¬ (k : Int) < (y : Int) := by
    rcases LA with ⟨h1, h2⟩ | ⟨b, off, n, m, c', y, h1, h2, _, h3, h4, h5⟩
    · injection h2 with h2
      exact .inl ⟨rfl, h2, by rw [h1]; rfl⟩
    · injection h1 with h1
      exact .inr ⟨b, off, n, m, y, h1, h5, h2, h3, fun e => hv ((h4 _).2 e)⟩
  clear LA hv hk
  generalize hnn : (heldL L o).length = nn at *
  clear hnn
  generalize hLL : (L.length : Int) = LL at *
  clear hLL h
  rcases LB with ⟨-, rfl, rfl⟩ | ⟨b, off, n, m, y, rfl, rfl, e0, h3, hy⟩
  · skip
    have hsk := slAt_k (w := w1.alloc (.cells #[.int .i64 (k : Int)] 3)) (b := w1.heap.size) (c := k) (cell_at1 _ _ _ rfl) (by simp)
    have HSK := Lib.hid hsk
    clear hsk
    go_enter Try.func15, Try.ntmps15
    go_wp2_with fail
    refine C.out.mono ?_
    rintro e w9 ⟨rfl, rfl⟩
    clear C
    go_upto_region 14 with (fail)
    clear hlk hlo c0 c1 c2 c3 hst1 k1
    go_region_law (first
      | (refine step_append_slf _ (by rfl) _ _ _ (by rfl) 0 3 i0 _ 8 Try.underlying26 hi hz0 hz1 hz2 rfl (by decide) _ 0 _ (by rfl) (own_below HOW.out (by repeat (first | assumption | exact Below.refl _ _ | refine belowDrawN ?_ _ | refine belowDraw ?_ | refine belowAlloc ?_ _))) _ [k] _ _ (by rfl) (by rfl) encK_len (by exact HSK.out) (one_flatK _) h63 h64 (Nat.zero_le _) ?_
         intro v1 w2 hown1 hgrow1 hfr1
         obtain ⟨A1, n1, rfl⟩ := own_any hown1
         obtain ⟨w3, e1, e2, AD, AF⟩ := HA.out _ _ hown1 hgrow1 hfr1
         simp only [List.length_cons, List.length_nil, Nat.zero_add] at e2
         clear hown1 hgrow1 hfr1 HA HOW HSK))
    all_goals
      go_wp2_with fail
      refine AD.out.mono ?_
      rintro e w4 ⟨rfl, rfl⟩
      clear AD
      go_wp2_with fail
      go_ret
      exact ⟨rfl, AF.out⟩
  · have n0 : (0 : Int) < (nn : Int) := by omega
    have n1 : (nn : Int) - 1 = (m : Int) := by omega
    have m0 : (0 : Int) ≤ (m : Int) := by omega
    have m1 : (m : Int) < (nn : Int) := by omega
    clear e0
    have hsk := slAt_k (w := w1.alloc (.cells #[.int .i64 (k : Int)] 3)) (b := w1.heap.size) (c := k) (cell_at1 _ _ _ rfl) (by simp)
    have HSK := Lib.hid hsk
    clear hsk
    go_enter Try.func15, Try.ntmps15
    go_wp2_with fail
    refine C.out.mono ?_
    rintro e w9 ⟨rfl, rfl⟩
    clear C
    go_upto_region 14 with (fail)
    clear hlk hlo c0 c1 c2 c3 hst1 k1 h3 hy n0 n1 m0 m1
    go_region_law (first
      | (refine step_append_slf _ (by rfl) _ _ _ (by rfl) 0 3 i0 _ 8 Try.underlying26 hi hz0 hz1 hz2 rfl (by decide) _ nn _ (by rfl) (own_below HOW.out (by repeat (first | assumption | exact Below.refl _ _ | refine belowDrawN ?_ _ | refine belowDraw ?_ | refine belowAlloc ?_ _))) _ [k] _ _ (by rfl) (by rfl) encK_len (by exact HSK.out) (one_flatK _) h63 h64 (Nat.zero_le _) ?_
         intro v1 w2 hown1 hgrow1 hfr1
         obtain ⟨A1, n1, rfl⟩ := own_any hown1
         obtain ⟨w3, e1, e2, AD, AF⟩ := HA.out _ _ hown1 hgrow1 hfr1
         simp only [List.length_cons, List.length_nil, Nat.zero_add] at e2
         clear hown1 hgrow1 hfr1 HA HOW HSK))
    all_goals
      go_wp2_with fail
      refine AD.out.mono ?_
      rintro e w4 ⟨rfl, rfl⟩
      clear AD
      go_wp2_with fail
      go_ret
      exact ⟨rfl, AF.out⟩
end
end Go.Proofs.Ytpfplniokjkcbaa
