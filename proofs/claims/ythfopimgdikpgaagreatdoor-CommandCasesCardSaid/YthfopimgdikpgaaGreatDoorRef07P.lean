/- The reference of layer 7: appended. -/
import Derived.Test.YthfopimgdikpgaaGreatDoorRef07M
import Derived.Test.YthfopimgdikpgaaGreatDoorCmdTop2
import Derived.Deep.Cut
import Derived.BigRegion
namespace Go.Proofs.YthfopimgdikpgaaGreatDoor
open Go.RowKit

/-- Nine fields. -/
def Ag (v : Value) : Prop := ∃ (s0 : ByteArray) (i1 : Int) (s2 : ByteArray) (A3 : Option Addr) (n3 k3 : Nat) (i4 i5 : Int) (q6 : Bool) (i7 : Int) (A8 : Option Addr) (n8 k8 : Nat), v = .agg #[.string s0, .int .i64 i1, .string s2, .slice A3 n3 k3, .int .i64 i4, .int .i64 i5, .bool q6, .int .u8 i7, .slice A8 n8 k8]
theorem Ag.cmd (c : Cmd) (A : Option Addr) (n k : Nat) (A' : Option Addr) (n' k' : Nat) : Ag (.agg (cmdA c (.slice A n k) (.slice A' n' k'))) := ⟨_, _, _, _, _, _, _, _, _, _, _, _, _, rfl⟩
/-- What 'body' and 'appended' answer. -/
def BPost (o : Option Cmd) (w : World) (e : Ending) (w' : World) : Prop :=
  ∃ (v : Value) (q : Bool), e = .returned (.tuple #[v, .bool q]) ∧ Ag v ∧ (q = true → ∃ c sv dv, v = .agg (cmdA c sv dv) ∧ Hid (o = some c) ∧ Hid (CmdV w' c v) ∧ NewS w.heap.size sv ∧ NewS w.heap.size dv) ∧ (q = false → Hid (o = none)) ∧ Below w.heap.size w w'
theorem BPost.no {o : Option Cmd} {w w' : World} {s0 : ByteArray} {i1 : Int} {s2 : ByteArray} {A3 : Option Addr} {n3 k3 : Nat} {i4 i5 : Int} {q6 : Bool} {i7 : Int} {A8 : Option Addr} {n8 k8 : Nat} (h : o = none) (hb : Below w.heap.size w w') : BPost o w (.returned (.tuple #[.agg #[.string s0, .int .i64 i1, .string s2, .slice A3 n3 k3, .int .i64 i4, .int .i64 i5, .bool q6, .int .u8 i7, .slice A8 n8 k8], .bool false])) w' :=
  ⟨_, false, rfl, ⟨_, _, _, _, _, _, _, _, _, _, _, _, _, rfl⟩, fun e => (by cases e), fun _ => Lib.hid h, hb⟩
theorem cells9 {W : World} {g : Nat} {a0 a1 a2 a3 a4 a5 a6 a7 a8 : Value} {T : TypeId} {z : Nat × Nat} (h : W.heap[g]? = some (.cells #[a0, a1, a2, a3, a4, a5, a6, a7, a8] T z)) :
    W.cell? ⟨g, 0, none⟩ = some a0 ∧ W.cell? ⟨g, 1, none⟩ = some a1 ∧ W.cell? ⟨g, 2, none⟩ = some a2 ∧ W.cell? ⟨g, 3, none⟩ = some a3 ∧ W.cell? ⟨g, 4, none⟩ = some a4 ∧ W.cell? ⟨g, 5, none⟩ = some a5 ∧ W.cell? ⟨g, 6, none⟩ = some a6 ∧ W.cell? ⟨g, 7, none⟩ = some a7 ∧ W.cell? ⟨g, 8, none⟩ = some a8 :=
  ⟨cell_of_row _ _ 0 _ _ _ h, cell_of_row _ _ 1 _ _ _ h, cell_of_row _ _ 2 _ _ _ h, cell_of_row _ _ 3 _ _ _ h, cell_of_row _ _ 4 _ _ _ h, cell_of_row _ _ 5 _ _ _ h, cell_of_row _ _ 6 _ _ _ h, cell_of_row _ _ 7 _ _ _ h, cell_of_row _ _ 8 _ _ _ h⟩
theorem BPost.yes {o : Option Cmd} {c : Cmd} {g cap r : Nat} {w W W9 : World} (ho : o = some c) (hset : c.set = []) (hd : SlAt encB 1 W (some ⟨g, 0, none⟩) c.data) (hle : c.data.length ≤ cap) (hg : W.grownBy W9 (some r)) (hne : g ≠ r) (hn : w.heap.size ≤ g) (hb : Below w.heap.size w W9) :
    BPost o w (.returned (.tuple #[.agg (cmdA c (.slice none 0 0) (.slice (some ⟨g, 0, none⟩) c.data.length cap)), .bool true])) W9 :=
  ⟨_, true, rfl, Ag.cmd _ _ _ _ _ _ _, fun _ => ⟨c, _, _, rfl, Lib.hid ho, Lib.hid ⟨_, _, rfl, ⟨none, 0, by rw [hset]; rfl, by rw [hset]; exact Nat.le_refl _, .inl hset⟩, _, _, rfl, hle, slAt_past hd hg (fun b off s e => by injection e with e; injection e with e; omega)⟩,
    fun b off s n k e => (by injection e with e; cases e), fun b off s n k e => (by injection e with e; injection e with e; injection e with e; omega)⟩, fun e => (by cases e), hb⟩
theorem appended_fin {Q : Ending → World → Prop} {tms : Array Value} {W : World} {r : Nat} {c0 c1 c2 c3 c4 c5 c6 c7 c8 a0 a1 a2 a3 a4 a5 a6 a7 a8 : Value} {T : TypeId} {q : Bool}
    (h : W.heap[r]? = some (.cells #[c0, c1, c2, c3, c4, c5, c6, c7, c8] T (0, 0))) (h4 : tms[4]? = some (.pointer (some ⟨r, 0, none⟩))) (h5 : tms[5]? = some (.bool q))
    (hQ : Q (.returned (.tuple #[.agg #[a0, a1, a2, a3, a4, a5, a6, a7, a8], .bool q])) (stC W r a0 a1 a2 a3 a4 a5 a6 a7 a8)) :
    bodyPost Tryz.prog Tryz.f49 Q Exit.ret { tmps := tms, defers := [] } (stC W r a0 a1 a2 a3 a4 a5 a6 a7 a8) := by
  have hq := stC_block h a0 a1 a2 a3 a4 a5 a6 a7 a8
  generalize stC W r a0 a1 a2 a3 a4 a5 a6 a7 a8 = w9 at *
  have q0 := cell_of_row _ _ 0 _ _ _ hq
  have q1 := cell_of_row _ _ 1 _ _ _ hq
  have q2 := cell_of_row _ _ 2 _ _ _ hq
  have q3 := cell_of_row _ _ 3 _ _ _ hq
  have q4 := cell_of_row _ _ 4 _ _ _ hq
  have q5 := cell_of_row _ _ 5 _ _ _ hq
  have q6 := cell_of_row _ _ 6 _ _ _ hq
  have q7 := cell_of_row _ _ 7 _ _ _ hq
  have q8 := cell_of_row _ _ 8 _ _ _ hq
  clear hq h
  refine bodyPost_ret (v := .tuple #[.agg #[a0, a1, a2, a3, a4, a5, a6, a7, a8], .bool q]) (by simp [results, Tryz.results49, go_sem, h4, h5, q0, q1, q2, q3, q4, q5, q6, q7, q8]) rfl hQ

theorem appended_finD {Q : Ending → World → Prop} {tms : Array Value} {W : World} {r : Nat} {c0 c1 c2 c3 c4 c5 c6 c7 c8 a0 a1 a2 a3 a4 a5 a6 a7 a8 : Value} {T : TypeId} {q : Bool}
    (h : W.heap[r]? = some (.cells #[c0, c1, c2, c3, c4, c5, c6, c7, c8] T (0, 0))) (h4 : tms[4]? = some (.pointer (some ⟨r, 0, none⟩))) (h5 : tms[5]? = some (.bool q))
    (hQ : Q (.returned (.tuple #[.agg #[a0, a1, a2, a3, a4, a5, a6, a7, a8], .bool q])) (stC W r a0 a1 a2 a3 a4 a5 a6 a7 a8).drew) :
    bodyPost Tryz.prog Tryz.f49 Q Exit.ret { tmps := tms, defers := [] } (stC W r a0 a1 a2 a3 a4 a5 a6 a7 a8).drew := by
  have hq := stC_block h a0 a1 a2 a3 a4 a5 a6 a7 a8
  generalize stC W r a0 a1 a2 a3 a4 a5 a6 a7 a8 = w8 at *
  have hq8 : w8.drew.heap[r]? = some (.cells #[a0, a1, a2, a3, a4, a5, a6, a7, a8] T (0, 0)) := hq
  clear hq
  have hq := hq8
  clear hq8
  generalize w8.drew = w9 at *
  have q0 := cell_of_row _ _ 0 _ _ _ hq
  have q1 := cell_of_row _ _ 1 _ _ _ hq
  have q2 := cell_of_row _ _ 2 _ _ _ hq
  have q3 := cell_of_row _ _ 3 _ _ _ hq
  have q4 := cell_of_row _ _ 4 _ _ _ hq
  have q5 := cell_of_row _ _ 5 _ _ _ hq
  have q6 := cell_of_row _ _ 6 _ _ _ hq
  have q7 := cell_of_row _ _ 7 _ _ _ hq
  have q8 := cell_of_row _ _ 8 _ _ _ hq
  clear hq h
  refine bodyPost_ret (v := .tuple #[.agg #[a0, a1, a2, a3, a4, a5, a6, a7, a8], .bool q]) (by simp [results, Tryz.results49, go_sem, h4, h5, q0, q1, q2, q3, q4, q5, q6, q7, q8]) rfl hQ

theorem BPost.drew {o : Option Cmd} {w W : World} {e : Ending} (h : BPost o w e W) : BPost o w e W.drew := by
  obtain ⟨v, q, e, a, y, n, b⟩ := h
  refine ⟨v, q, e, a, fun hq => ?_, n, belDraw b⟩
  obtain ⟨c, sv, dv, h1, h2, h3, h4, h5⟩ := y hq
  exact ⟨c, sv, dv, h1, h2, Lib.hid (h3.out.below (belDraw (Below.refl _ _))), h4, h5⟩
theorem stC_below {n0 r : Nat} {w W : World} {a0 a1 a2 a3 a4 a5 a6 a7 a8 : Value} (h : Below n0 w W) (hr : n0 ≤ r := by omega) (hn : n0 ≤ w.heap.size := by omega) : Below n0 w (stC W r a0 a1 a2 a3 a4 a5 a6 a7 a8) :=
  h.grown (stC_grown W r a0 a1 a2 a3 a4 a5 a6 a7 a8) (Nat.le_trans hn h.size) (fun j hj => by cases hj; exact hr)
theorem appR_nil (c : Cmd) : appR c [] = none := rfl
theorem appR_bad (c : Cmd) (l : List Tok) (d : Tok) (h : d.kind ≠ 6) : appR c (l ++ [d]) = none := by
  simp [appR, h]
theorem appR_one (c : Cmd) (d : Tok) (h : d.kind = 6) : appR c [d] = some { c with data := d.text } := by
  simp [appR, h]
theorem appR_more (c : Cmd) (m : List Tok) (s d : Tok) (h : d.kind = 6) : appR c (m ++ [s] ++ [d]) = if s.kind = 1 then (lsR false m).map fun g => { c with flags := g, data := d.text } else none := by
  unfold lsR
  have h1 : (m ++ [s] ++ [d]).getLast? = some d := by simp
  have h2 : (m ++ [s] ++ [d]).dropLast = m ++ [s] := by simp
  have h3 : (m ++ [s]).getLast? = some s := by simp
  have h4 : (m ++ [s]).dropLast = m := by simp
  have h5 : (m ++ [s]) ≠ [] := by simp
  simp only [appR, h1, h2, h3, h4, h, ne_eq, not_true_eq_false, if_false, h5]
  by_cases hs : s.kind = 1
  · cases lnames m <;> simp [hs]
  · cases lnames m <;> simp [hs]
theorem u8_wrap {f : Nat} (h : f < 32) : IntKind.u8.wrap (f : Int) = (f : Int) := by
  simp only [IntKind.wrap, IntKind.bits, IntKind.signed, Bool.false_and, Int.reducePow]
  simp
  omega

set_option maxRecDepth 100000 in
set_option maxHeartbeats 600000 in
theorem appended_any (A : Option Addr) (k : Nat) (c : Cmd) (ts : List Tok) (hset : c.set = []) (hl : ts.length ≤ 10000) (hc : ts.length ≤ k) (htx : ∀ t ∈ ts, t.kind ≤ 6 ∧ t.text.length ≤ 1000000) (w : World) (hS : SlAt encT 3 w A ts) :
    Calls Tryz.prog 49 #[.agg (cmdA c (.slice none 0 0) (.slice none 0 0)), .slice A ts.length k] w (BPost (appR c ts) w) := by
  obtain ⟨O, hO⟩ : ∃ O, appR c ts = O := ⟨_, rfl⟩
  rw [hO]
  have HB1 := below_al w (.cells (cmdA c (.slice none 0 0) (.slice none 0 0)) 27)
  have HB2 := below_next HB1 (below_al _ (.cells zeroC 27))
  have hr1 := heap_alloc_new (w.alloc (.cells (cmdA c (.slice none 0 0) (.slice none 0 0)) 27)) (.cells zeroC 27)
  rw [World.size_alloc] at hr1
  have HR := Lib.hid hr1
  have hb1 := ((below_al (w.alloc (.cells (cmdA c (.slice none 0 0) (.slice none 0 0)) 27)) (.cells zeroC 27)).block w.heap.size (by simp)).trans (heap_alloc_new w _)
  have HB := Lib.hid HB2
  have HBX := Lib.hid hb1
  have HSZ : Hid (_ = w.heap.size + 1 + 1) := Lib.hid ((World.size_alloc (w.alloc (.cells (cmdA c (.slice none 0 0) (.slice none 0 0)) 27)) (.cells zeroC 27)).trans (by rw [World.size_alloc]))
  unfold cmdA zeroC at *
  have HO := Lib.hid hO
  have HTX := Lib.hid htx
  have HS := Lib.hid hS
  obtain ⟨n, hn⟩ : ∃ n, ts.length = n := ⟨_, rfl⟩
  have HN := Lib.hid hn
  rw [hn]
  clear hb1 hr1 HB1 HB2 hO htx hS hn
  go_enter Tryz.func49, Tryz.ntmps49
  go_upto_region 1 with (fail)
  generalize ((w.alloc (.cells #[.string ⟨c.tag.toArray⟩, .int .i64 (c.kind : Int), .string ⟨c.mbox.toArray⟩, .slice none 0 0, .int .i64 (c.items : Int), .int .i64 (c.mode : Int), .bool c.silent, .int .u8 (c.flags : Int), .slice none 0 0] 27)).alloc (.cells #[.string ⟨#[]⟩, .int .i64 0, .string ⟨#[]⟩, .slice none 0 0, .int .i64 0, .int .i64 0, .bool false, .int .u8 0, .slice none 0 0] 27)) = W2 at *
  obtain ⟨b0, b1, b2, b3, b4, b5, b6, b7, b8⟩ := cells9 HBX.out
  have ur := fun j => Joins.unfrozen_of_block HR.out j
  obtain ⟨z0, z1, z2, z3, z4, z5, z6, z7, z8⟩ := cells9 HR.out
  rw [HN.out] at hl hc
  rcases List.eq_nil_or_concat ts with rfl | ⟨l, d, rfl⟩
  · have HO : Hid (O = none) := Lib.hid HO.out.symm
    obtain rfl : n = 0 := HN.out.symm
    clear HS HTX hc hl
    go_wp2_with fail
    refine appended_fin (q := false) HR.out ?_ ?_ ?_
    · rfl
    · rfl
    · exact .no HO.out (stC_below HB.out)
  · rw [List.concat_eq_append] at *
    have hnl : l.length + 1 = n := by rw [← HN.out]; simp
    obtain ⟨b, off, rfl, hbw, hd0, hd1, hd2⟩ := tk_at (HS.out.below HB.out) (j := l.length) (by simp)
    clear hd2
    obtain ⟨_, _, he, hb0, _⟩ := tk_at HS.out (j := l.length) (by simp)
    cases he
    have ed : (l ++ [d])[l.length]'(by simp) = d := by simp
    rw [ed] at hd0 hd1
    have hdt := (HTX.out d (by simp)).2
    obtain ⟨n1, hn1⟩ : ∃ n1, l.length = n1 := ⟨_, rfl⟩
    rw [hn1] at hd0 hd1 hnl
    have g0 : ((n : Int) == 0) = false := by simp; omega
    have g0' : ¬ (n : Int) = 0 := by omega
    have hw1 : IntKind.i64.wrap ((n : Int) - 1) = (n1 : Int) := by rw [show n1 = n - 1 by omega]; exact wrap_sub n 1 (by omega) (by omega)
    have hlt1 : n1 < n := by omega
    by_cases h6 : d.kind = 6
    rotate_left
    · have HO : Hid (O = none) := Lib.hid (by rw [← HO.out]; exact appR_bad c l d h6)
      have f1 : ((d.kind : Int) != 6) = true := by simp; omega
      clear HS HTX h6 hnl hc hl ed hd1
      generalize d.kind = kd at *
      go_wp2_with fail
      refine appended_fin (q := false) HR.out ?_ ?_ ?_
      · rfl
      · rfl
      · exact .no HO.out (stC_below HB.out)
    · have f1 : ((d.kind : Int) != 6) = false := by rw [h6]; rfl
      obtain ⟨cap, W3, hcv, hb3, hby, hle, hsz3, _⟩ := convB W2 ⟨d.text.toArray⟩ d.text.length (by show d.text.toArray.size = _; simp)
      have hx3 := (hb3.block w.heap.size (by have := HSZ.out; omega)).trans HBX.out
      have hr3 := (hb3.block (w.heap.size + 1) (by have := HSZ.out; omega)).trans HR.out
      have HB3 := Lib.hid (HB.out.trans (hb3.mono (by have := HSZ.out; omega)))
      rw [HSZ.out] at hby hcv hsz3
      have hby : SlAt encB 1 W3 (some ⟨w.heap.size + 1 + 1, 0, none⟩) d.text := hby.sl
      have HX4 : Hid ((W3.setCell ⟨w.heap.size, 8, none⟩ (.slice (some ⟨w.heap.size + 1 + 1, 0, none⟩) d.text.length cap)).heap[w.heap.size]? = some (.cells #[.string ⟨c.tag.toArray⟩, .int .i64 (c.kind : Int), .string ⟨c.mbox.toArray⟩, .slice none 0 0, .int .i64 (c.items : Int), .int .i64 (c.mode : Int), .bool c.silent, .int .u8 (c.flags : Int), (.slice (some ⟨w.heap.size + 1 + 1, 0, none⟩) d.text.length cap)] 27 (0, 0))) := Lib.hid (Joins.block_setCell (i := 8) hx3 (.slice (some ⟨w.heap.size + 1 + 1, 0, none⟩) d.text.length cap))
      have hg4 := grown_set (World.grownBy.refl W3 (some w.heap.size)) 8 (.slice (some ⟨w.heap.size + 1 + 1, 0, none⟩) d.text.length cap)
      have HR4 := Lib.hid ((hg4.block (w.heap.size + 1) (by omega) (by simp)).trans hr3)
      have HD4 := Lib.hid (slAt_past hby hg4 (fun b off s e => by injection e with e; injection e with e; omega))
      have HB4 := Lib.hid (HB3.out.grown hg4 HB3.out.size (fun j hj => by cases hj; exact Nat.le_refl _))
      obtain ⟨c0, c1, c2, c3, c4, c5, c6, c7, c8⟩ := cells9 hx3
      have u8 := Joins.unfrozen_of_block hx3 8
      have u := fun j => Joins.unfrozen_of_block hr3 j
      obtain ⟨y0, y1, y2, y3, y4, y5, y6, y7, y8⟩ := cells9 hr3
      have HLE := Lib.hid hle
      rcases List.eq_nil_or_concat l with rfl | ⟨m, s, rfl⟩
      · have HO : Hid (O = some { c with data := d.text }) := Lib.hid (by rw [← HO.out]; exact appR_one c d h6)
        obtain rfl : n1 = 0 := hn1.symm
        have hnn : n = 1 := by omega
        have g1 : ((n : Int) == 1) = true := by rw [hnn]; rfl
        simp only [Nat.zero_mul, Nat.add_zero] at hd0 hd1
        clear HS HTX h6 hnl hc hl ed hg4 hb3 hsz3 hle hby hx3 hr3 hn1
        generalize d.kind = kd at *
        go_wp2_with fail
        refine appended_fin (q := true) HR4.out ?_ ?_ ?_
        · rfl
        · rfl
        · exact .yes (c := { c with data := d.text }) HO.out hset HD4.out HLE.out (stC_grown _ _ _ _ _ _ _ _ _ _ _) (by omega) (by omega) (stC_below HB4.out)
      · rw [List.concat_eq_append] at *
        have hm1 : m.length + 1 = n1 := by rw [← hn1]; simp
        have HO : Hid (O = if s.kind = 1 then (lsR false m).map fun g => { c with flags := g, data := d.text } else none) := Lib.hid (by rw [← HO.out]; exact appR_more c m s d h6)
        have g1 : ((n : Int) == 1) = false := by simp; omega
        have g1' : ¬ (n : Int) = 1 := by omega
        have hw2 : IntKind.i64.wrap ((n : Int) - 2) = (m.length : Int) := by rw [show m.length = n - 2 by omega]; exact wrap_sub n 2 (by omega) (by omega)
        have s0 := fun x lo hi mx W => sliceAtRT x lo hi mx W
        have s1 := fun W => sliceRT_h (some ⟨b, off, none⟩) n k m.length (by omega) W
        have htk : (m ++ [s] ++ [d]).take m.length = m := by simp
        have LI := Lib.hid (fun W (hW : Below w.heap.size w W) => rlist_any false (some ⟨b, off, none⟩) k m (by omega) (by omega) (fun t ht => HTX.out t (by simp [ht])) W (by have h := slAt_take (hi := m.length) (HS.out.below hW); rw [htk] at h; exact h))
        have HSK : Hid (∀ W, Below w.heap.size w W → W.cell? ⟨b, off + m.length * 3, none⟩ = some (.int .i64 (s.kind : Int))) := Lib.hid (fun W hW => by
          obtain ⟨b', off', he, _, hk, _⟩ := tk_at (HS.out.below hW) (j := m.length) (by simp)
          cases he
          rw [show (m ++ [s] ++ [d])[m.length]'(by simp) = s by simp] at hk
          exact hk)
        have hmn : m.length < n := by omega
        have HS4 := Lib.hid (Nat.le_trans (show w.heap.size + 1 + 1 ≤ W3.heap.size by have := HSZ.out; have := hb3.size; omega) hg4.size)
        clear HS HTX h6 hnl hc hl ed hg4 hb3 hsz3 hle hby hx3 hr3 htk hn1 hm1
        generalize d.kind = kd at *
        go_wp2_with fail
        refine (LI.out _ HB4.out).mono ?_
        rintro e w5 ⟨f, q, rfl, hf, ho, hb5⟩
        have hx5 := (hb5.block w.heap.size (by have := HS4.out; omega)).trans HX4.out
        have hr5 := (hb5.block (w.heap.size + 1) (by have := HS4.out; omega)).trans HR4.out
        have hd5 := HD4.out.below hb5
        have HB5 := Lib.hid (HB4.out.trans (hb5.mono HB4.out.size))
        have x7 := cell_of_row _ _ 7 _ _ _ hx5
        have v7 := Joins.unfrozen_of_block hx5 7
        have hx6 : (w5.setCell ⟨w.heap.size, 7, none⟩ (.int .u8 (f : Int))).heap[w.heap.size]? = some (.cells #[.string ⟨c.tag.toArray⟩, .int .i64 (c.kind : Int), .string ⟨c.mbox.toArray⟩, .slice none 0 0, .int .i64 (c.items : Int), .int .i64 (c.mode : Int), .bool c.silent, .int .u8 (f : Int), (.slice (some ⟨w.heap.size + 1 + 1, 0, none⟩) d.text.length cap)] 27 (0, 0)) := Joins.block_setCell (i := 7) hx5 (.int .u8 (f : Int))
        have hg6 := grown_set (World.grownBy.refl w5 (some w.heap.size)) 7 (.int .u8 (f : Int))
        have HR6 := Lib.hid ((hg6.block (w.heap.size + 1) (by have := HS4.out; have := hb5.size; omega) (by simp)).trans hr5)
        have HX6 := Lib.hid hx6
        have HD6 := Lib.hid (slAt_past hd5 hg6 (fun b off s e => by injection e with e; injection e with e; omega))
        have HB6 := Lib.hid (HB5.out.grown hg6 HB5.out.size (fun j hj => by cases hj; exact Nat.le_refl _))
        clear hx5 hr5 hd5 hb5 hx6 hg6 HB4 HB5 HX4 HR4 HD4 LI
        clear b0 b1 b2 b3 b4 b5 b6 b7 b8 z0 z1 z2 z3 z4 z5 z6 z7 z8 ur c0 c1 c2 c3 c4 c5 c6 c7 c8 y0 y1 y2 y3 y4 y5 y6 y7 y8 u u8 hd0 hd1 s0 s1
        have hw8 := u8_wrap hf
        go_upto_region 9 with (fail)
        clear x7 v7
        generalize w5.setCell ⟨w.heap.size, 7, none⟩ (.int .u8 (f : Int)) = w6 at *
        obtain ⟨c0, c1, c2, c3, c4, c5, c6, c7, c8⟩ := cells9 HX6.out
        obtain ⟨y0, y1, y2, y3, y4, y5, y6, y7, y8⟩ := cells9 HR6.out
        have u := fun j => Joins.unfrozen_of_block HR6.out j
        have k0 := HSK.out w6 HB6.out
        clear HSK HB HBX HR
        cases q with
        | false =>
          have HO1 : Hid (O = none) := Lib.hid (by
            rw [HO.out]
            split
            · rw [ho.out]; rfl
            · rfl)
          go_region
          go_wp2_with fail
          refine appended_finD (q := false) HR6.out ?_ ?_ ?_
          · rfl
          · rfl
          · exact .drew (.no HO1.out (stC_below HB6.out))
        | true =>
          have nb : ¬ b = w.heap.size + 1 := by omega
          have nb' : ¬ w.heap.size + 1 = b := by omega
          have i1 : (0 : Int) ≤ (m.length : Int) := by omega
          have i2 : (m.length : Int) < (n : Int) := by omega
          have i3 : ¬ (m.length : Int) < 0 := by omega
          by_cases h1 : s.kind = 1
          · have HO1 : Hid (O = some { c with flags := f, data := d.text }) := Lib.hid (by rw [HO.out, if_pos h1, ho.out]; rfl)
            have e1 : ((s.kind : Int) == 1) = true := by rw [h1]; rfl
            clear h1
            generalize s.kind = sk at *
            go_big_region
            go_wp2_with fail
            refine appended_finD (q := true) HR6.out ?_ ?_ ?_
            · rfl
            · rfl
            · exact .drew (.yes (c := { c with flags := f, data := d.text }) HO1.out hset HD6.out HLE.out (stC_grown _ _ _ _ _ _ _ _ _ _ _) (by omega) (by omega) (stC_below HB6.out))
          · have HO1 : Hid (O = none) := Lib.hid (by rw [HO.out, if_neg h1])
            have e1 : ((s.kind : Int) == 1) = false := by simp; omega
            have e2 : ¬ (s.kind : Int) = 1 := by omega
            clear h1
            generalize s.kind = sk at *
            go_big_region
            go_wp2_with fail
            refine appended_finD (q := false) HR6.out ?_ ?_ ?_
            · rfl
            · rfl
            · exact .drew (.no HO1.out (stC_below HB6.out))
end Go.Proofs.YthfopimgdikpgaaGreatDoor
