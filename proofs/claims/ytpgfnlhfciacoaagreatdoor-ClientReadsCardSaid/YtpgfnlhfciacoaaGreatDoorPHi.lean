import Derived.Test.YtpgfnlhfciacoaaGreatDoorPHh
import Derived.Test.YtpgfnlhfciacoaaGreatDoorPGs
import Derived.Deep.Cut
set_option maxRecDepth 100000
set_option maxHeartbeats 2000000
open Go.Lib renaming hid → Hi
namespace Go.Proofs.YtpgfnlhfciacoaaGreatDoor
open Go.RowKit
theorem rmode_any (x : List UInt8) (hl : x.length ≤ 1000000) (w : World) :
 Calls Tryz.prog 103 #[.string ⟨x.toArray⟩] w fun e w' => e = .returned (modeZ (modeL x)) ∧ Below w.heap.size w w' := by
 rw [modeL_is]
 have U := Hi (refUpper_any ⟨x.toArray⟩ (by show x.toArray.size ≤ _; simp; omega) w)
 have e0 : (ByteArray.mk x.toArray).data.toList = x := rfl
 rw [e0] at U
 have hul : (upL x).length ≤ 1000000 := by rw [upL_length]; exact hl
 generalize upL x = u at *
 obtain ⟨n, hn⟩ : ∃ n, u.length = n := ⟨_, rfl⟩
 have hsz : (ByteArray.mk u.toArray).size = n := by show u.toArray.size = _; simpa using hn
 obtain ⟨O, hO⟩ : ∃ O, (if silent7 u = true then (modeU (u.take (u.length - 7))).map (·, true) else (modeU u).map (·, false)) = O := ⟨_, rfl⟩
 rw [hO]
 rw [hn] at hO
 have HO := Hi hO
 clear hO e0
 by_cases h7 : 7 < n
 · have hw7 : IntKind.i64.wrap ((n : Int) - 7) = ((n - 7 : Nat) : Int) := wrap_sub n 7 (by omega) (by omega)
   have CL : ∀ W, (Instr.slice 9 (.string ⟨u.toArray⟩) (some (.int .i64 ((n - 7 : Nat) : Int))) none none).run Tryz.prog W = .ok (.string ⟨(u.drop (n - 7)).toArray⟩) W := fun W => by
    have h := run_slice_string_from_if (P := Tryz.prog) (w := W) 9 ⟨u.toArray⟩ .i64 ((n - 7 : Nat) : Int) Tryz.underlying9
    rw [h, hsz, if_pos ⟨by omega, by omega⟩]
    congr 2
    apply ByteArray.ext
    apply Array.toList_inj.1
    simp only [← hn]
    simp
    exact List.take_of_length_le (by simp)
   have CH : ∀ W, (Instr.slice 9 (.string ⟨u.toArray⟩) none (some (.int .i64 ((n - 7 : Nat) : Int))) none).run Tryz.prog W = .ok (.string ⟨(u.take (n - 7)).toArray⟩) W := fun W => by
    have h := run_slice_string_to_if (P := Tryz.prog) (w := W) 9 ⟨u.toArray⟩ .i64 ((n - 7 : Nat) : Int) Tryz.underlying9
    rw [h, hsz, if_pos ⟨by omega, by omega⟩]
    congr 2
    apply ByteArray.ext
    apply Array.toList_inj.1
    simp
   have d1 : decide ((7 : Int) < (n : Int)) = true := by simp; omega
   have d2 : decide (7 < n) = true := by simpa using h7
   have HS : silent7 u = (u.drop (n - 7) == silB) := by unfold silent7; rw [hn, d2, Bool.true_and]
   rw [HS] at HO
   clear HS
   have hsz2 : u.toArray.size = n := by simpa using hn
   generalize n - 7 = n7 at *
   generalize u.drop n7 = y at *
   generalize u.take n7 = z at *
   by_cases hy : y = silB
   · have hb : (y == silB) = true := by simpa using hy
     have HO1 : Hid ((modeU z).map (·, true) = O) := Hi (by rw [← HO.out, hb]; rfl)
     subst hy
     unfold silB at *
     clear HO hb hn
     rcases modeU_cases z with ⟨rfl, hm⟩ | ⟨rfl, hm⟩ | ⟨rfl, hm⟩ | ⟨hm, q1, q2, q3⟩
     · rw [hm] at HO1
       clear hm
       go_enter Tryz.func103, Tryz.ntmps103
       go_wp2_with fail
       refine U.out.mono ?_
       rintro e w1 ⟨rfl, hb1⟩
       go_wp2_with fail
       refine bodyPost_ret (v := .tuple #[.int .i64 0, .bool true]) (by simp [results, Tryz.results103, go_sem]) rfl ⟨by rw [← HO1.out]; rfl, hb1⟩
     · rw [hm] at HO1
       clear hm
       go_enter Tryz.func103, Tryz.ntmps103
       go_wp2_with fail
       refine U.out.mono ?_
       rintro e w1 ⟨rfl, hb1⟩
       go_wp2_with fail
       refine bodyPost_ret (v := .tuple #[.int .i64 1, .bool true]) (by simp [results, Tryz.results103, go_sem]) rfl ⟨by rw [← HO1.out]; rfl, hb1⟩
     · rw [hm] at HO1
       clear hm
       go_enter Tryz.func103, Tryz.ntmps103
       go_wp2_with fail
       refine U.out.mono ?_
       rintro e w1 ⟨rfl, hb1⟩
       go_wp2_with fail
       refine bodyPost_ret (v := .tuple #[.int .i64 2, .bool true]) (by simp [results, Tryz.results103, go_sem]) rfl ⟨by rw [← HO1.out]; rfl, hb1⟩
     · rw [hm] at HO1
       have q1' : (z == [70, 76, 65, 71, 83]) = false := by simpa using q1
       have q2' : (z == [43, 70, 76, 65, 71, 83]) = false := by simpa using q2
       have q3' : (z == [45, 70, 76, 65, 71, 83]) = false := by simpa using q3
       clear hm
       go_enter Tryz.func103, Tryz.ntmps103
       go_wp2_with fail
       refine U.out.mono ?_
       rintro e w1 ⟨rfl, hb1⟩
       go_wp2_with fail
       refine bodyPost_ret (v := .tuple #[.int .i64 (-1), .bool false]) (by simp [results, Tryz.results103, go_sem]) rfl ⟨by rw [← HO1.out]; rfl, hb1⟩
   · have hb : (y == silB) = false := by simpa using hy
     have HO1 : Hid ((modeU u).map (·, false) = O) := Hi (by rw [← HO.out, hb]; rfl)
     unfold silB at hb hy
     clear HO
     rcases modeU_cases u with ⟨rfl, hm⟩ | ⟨rfl, hm⟩ | ⟨rfl, hm⟩ | ⟨hm, q1, q2, q3⟩
     · simp at hn; omega
     · simp at hn; omega
     · simp at hn; omega
     · rw [hm] at HO1
       clear hn
       have q1' : (u == [70, 76, 65, 71, 83]) = false := by simpa using q1
       have q2' : (u == [43, 70, 76, 65, 71, 83]) = false := by simpa using q2
       have q3' : (u == [45, 70, 76, 65, 71, 83]) = false := by simpa using q3
       clear hm
       go_enter Tryz.func103, Tryz.ntmps103
       go_wp2_with fail
       refine U.out.mono ?_
       rintro e w1 ⟨rfl, hb1⟩
       go_wp2_with fail
       refine bodyPost_ret (v := .tuple #[.int .i64 (-1), .bool false]) (by simp [results, Tryz.results103, go_sem]) rfl ⟨by rw [← HO1.out]; rfl, hb1⟩
 · have d1 : decide ((7 : Int) < (n : Int)) = false := by simp; omega
   have d2 : decide (7 < n) = false := by simpa using h7
   have HO1 : Hid ((modeU u).map (·, false) = O) := Hi (by
    rw [← HO.out, show silent7 u = false by unfold silent7; rw [hn, d2]; rfl]; rfl)
   have hsz2 : u.toArray.size = n := by simpa using hn
   clear HO hn
   rcases modeU_cases u with ⟨rfl, hm⟩ | ⟨rfl, hm⟩ | ⟨rfl, hm⟩ | ⟨hm, q1, q2, q3⟩
   · rw [hm] at HO1
     clear hm
     go_enter Tryz.func103, Tryz.ntmps103
     go_wp2_with fail
     refine U.out.mono ?_
     rintro e w1 ⟨rfl, hb1⟩
     go_wp2_with fail
     refine bodyPost_ret (v := .tuple #[.int .i64 0, .bool false]) (by simp [results, Tryz.results103, go_sem]) rfl ⟨by rw [← HO1.out]; rfl, hb1⟩
   · rw [hm] at HO1
     clear hm
     go_enter Tryz.func103, Tryz.ntmps103
     go_wp2_with fail
     refine U.out.mono ?_
     rintro e w1 ⟨rfl, hb1⟩
     go_wp2_with fail
     refine bodyPost_ret (v := .tuple #[.int .i64 1, .bool false]) (by simp [results, Tryz.results103, go_sem]) rfl ⟨by rw [← HO1.out]; rfl, hb1⟩
   · rw [hm] at HO1
     clear hm
     go_enter Tryz.func103, Tryz.ntmps103
     go_wp2_with fail
     refine U.out.mono ?_
     rintro e w1 ⟨rfl, hb1⟩
     go_wp2_with fail
     refine bodyPost_ret (v := .tuple #[.int .i64 2, .bool false]) (by simp [results, Tryz.results103, go_sem]) rfl ⟨by rw [← HO1.out]; rfl, hb1⟩
   · rw [hm] at HO1
     have q1' : (u == [70, 76, 65, 71, 83]) = false := by simpa using q1
     have q2' : (u == [43, 70, 76, 65, 71, 83]) = false := by simpa using q2
     have q3' : (u == [45, 70, 76, 65, 71, 83]) = false := by simpa using q3
     clear hm
     go_enter Tryz.func103, Tryz.ntmps103
     go_wp2_with fail
     refine U.out.mono ?_
     rintro e w1 ⟨rfl, hb1⟩
     go_wp2_with fail
     refine bodyPost_ret (v := .tuple #[.int .i64 (-1), .bool false]) (by simp [results, Tryz.results103, go_sem]) rfl ⟨by rw [← HO1.out]; rfl, hb1⟩
def Ag (v : Value) : Prop := ∃ (s0 : ByteArray) (i1 : Int) (s2 : ByteArray) (A3 : Option Addr) (n3 k3 : Nat) (i4 i5 : Int) (q6 : Bool) (i7 : Int) (A8 : Option Addr) (n8 k8 : Nat), v = .agg #[.string s0, .int .i64 i1, .string s2, .slice A3 n3 k3, .int .i64 i4, .int .i64 i5, .bool q6, .int .u8 i7, .slice A8 n8 k8]
theorem Ag.cmd (c : Cmd) (A : Option Addr) (n k : Nat) (A' : Option Addr) (n' k' : Nat) : Ag (.agg (cmdA c (.slice A n k) (.slice A' n' k'))) := ⟨_, _, _, _, _, _, _, _, _, _, _, _, _, rfl⟩
def ZZ (o : Option Cmd) (w : World) (e : Ending) (w' : World) : Prop :=
 ∃ (v : Value) (q : Bool), e = .returned (.tuple #[v, .bool q]) ∧ Ag v ∧ (q = true → ∃ c sv dv, v = .agg (cmdA c sv dv) ∧ Hid (o = some c) ∧ Hid (CmdV w' c v) ∧ NewS w.heap.size sv ∧ NewS w.heap.size dv) ∧ (q = false → Hid (o = none)) ∧ Below w.heap.size w w'
theorem ZZ.no {o : Option Cmd} {w w' : World} {s0 : ByteArray} {i1 : Int} {s2 : ByteArray} {A3 : Option Addr} {n3 k3 : Nat} {i4 i5 : Int} {q6 : Bool} {i7 : Int} {A8 : Option Addr} {n8 k8 : Nat} (h : o = none) (hb : Below w.heap.size w w') : ZZ o w (.returned (.tuple #[.agg #[.string s0, .int .i64 i1, .string s2, .slice A3 n3 k3, .int .i64 i4, .int .i64 i5, .bool q6, .int .u8 i7, .slice A8 n8 k8], .bool false])) w' :=
 ⟨_, false, rfl, ⟨_, _, _, _, _, _, _, _, _, _, _, _, _, rfl⟩, fun e => (by cases e), fun _ => Hi h, hb⟩
theorem ZZ.yes {o : Option Cmd} {c : Cmd} {g cap r : Nat} {w W W9 : World} (ho : o = some c) (hset : c.set = []) (hd : SlAt encB 1 W (some ⟨g, 0, none⟩) c.data) (hle : c.data.length ≤ cap) (hg : W.grownBy W9 (some r)) (hne : g ≠ r) (hn : w.heap.size ≤ g) (hb : Below w.heap.size w W9) :
 ZZ o w (.returned (.tuple #[.agg (cmdA c (.slice none 0 0) (.slice (some ⟨g, 0, none⟩) c.data.length cap)), .bool true])) W9 :=
 ⟨_, true, rfl, Ag.cmd _ _ _ _ _ _ _, fun _ => ⟨c, _, _, rfl, Hi ho, Hi ⟨_, _, rfl, ⟨none, 0, by rw [hset]; rfl, by rw [hset]; exact Nat.le_refl _, .inl hset⟩, _, _, rfl, hle, slAt_past hd hg (fun b off s e => by injection e with e; injection e with e; omega)⟩,
  fun b off s n k e => (by injection e with e; cases e), fun b off s n k e => (by injection e with e; injection e with e; injection e with e; omega)⟩, fun e => (by cases e), hb⟩
theorem appended_fin {Q : Ending → World → Prop} {tms : Array Value} {W : World} {r : Nat} {c0 c1 c2 c3 c4 c5 c6 c7 c8 a0 a1 a2 a3 a4 a5 a6 a7 a8 : Value} {T : TypeId} {q : Bool}
 (h : W.heap[r]? = some (.cells #[c0, c1, c2, c3, c4, c5, c6, c7, c8] T (0, 0))) (h4 : tms[4]? = some (.pointer (some ⟨r, 0, none⟩))) (h5 : tms[5]? = some (.bool q))
 (hQ : Q (.returned (.tuple #[.agg #[a0, a1, a2, a3, a4, a5, a6, a7, a8], .bool q])) (stC W r a0 a1 a2 a3 a4 a5 a6 a7 a8)) :
 bodyPost Tryz.prog Tryz.f99 Q Exit.ret { tmps := tms, defers := [] } (stC W r a0 a1 a2 a3 a4 a5 a6 a7 a8) := by
 have hq := stC_block h a0 a1 a2 a3 a4 a5 a6 a7 a8
 generalize stC W r a0 a1 a2 a3 a4 a5 a6 a7 a8 = w9 at *
 have q0 := cell_of_row _ _ 0 _ _ _ hq
 have q1 := cell_of_row _ _ 1 _ _ _ hq
 have q2 := cell_of_row _ _ 2 _ _ _ hq
 have q3 := cell_of_row _ _ 3 _ _ _ hq
 have q4 := cell_of_row _ _ 4 _ _ _ hq
 have q5 := cell_of_row _ _ 5 _ _ _ hq
 have q6 := cell_of_row _ _ 6 _ _ _ hq
 have q7 := cell_of_row _ _ 7 _ _ _ hq
 have q8 := cell_of_row _ _ 8 _ _ _ hq
 clear hq h
 refine bodyPost_ret (v := .tuple #[.agg #[a0, a1, a2, a3, a4, a5, a6, a7, a8], .bool q]) (by simp [results, Tryz.results99, go_sem, h4, h5, q0, q1, q2, q3, q4, q5, q6, q7, q8]) rfl hQ
theorem appended_finD {Q : Ending → World → Prop} {tms : Array Value} {W : World} {r : Nat} {c0 c1 c2 c3 c4 c5 c6 c7 c8 a0 a1 a2 a3 a4 a5 a6 a7 a8 : Value} {T : TypeId} {q : Bool}
 (h : W.heap[r]? = some (.cells #[c0, c1, c2, c3, c4, c5, c6, c7, c8] T (0, 0))) (h4 : tms[4]? = some (.pointer (some ⟨r, 0, none⟩))) (h5 : tms[5]? = some (.bool q))
 (hQ : Q (.returned (.tuple #[.agg #[a0, a1, a2, a3, a4, a5, a6, a7, a8], .bool q])) (stC W r a0 a1 a2 a3 a4 a5 a6 a7 a8).drew) :
 bodyPost Tryz.prog Tryz.f99 Q Exit.ret { tmps := tms, defers := [] } (stC W r a0 a1 a2 a3 a4 a5 a6 a7 a8).drew := by
 have hq := stC_block h a0 a1 a2 a3 a4 a5 a6 a7 a8
 generalize stC W r a0 a1 a2 a3 a4 a5 a6 a7 a8 = w8 at *
 have hq8 : w8.drew.heap[r]? = some (.cells #[a0, a1, a2, a3, a4, a5, a6, a7, a8] T (0, 0)) := hq
 clear hq
 have hq := hq8
 clear hq8
 generalize w8.drew = w9 at *
 have q0 := cell_of_row _ _ 0 _ _ _ hq
 have q1 := cell_of_row _ _ 1 _ _ _ hq
 have q2 := cell_of_row _ _ 2 _ _ _ hq
 have q3 := cell_of_row _ _ 3 _ _ _ hq
 have q4 := cell_of_row _ _ 4 _ _ _ hq
 have q5 := cell_of_row _ _ 5 _ _ _ hq
 have q6 := cell_of_row _ _ 6 _ _ _ hq
 have q7 := cell_of_row _ _ 7 _ _ _ hq
 have q8 := cell_of_row _ _ 8 _ _ _ hq
 clear hq h
 refine bodyPost_ret (v := .tuple #[.agg #[a0, a1, a2, a3, a4, a5, a6, a7, a8], .bool q]) (by simp [results, Tryz.results99, go_sem, h4, h5, q0, q1, q2, q3, q4, q5, q6, q7, q8]) rfl hQ
theorem ZZ.drew {o : Option Cmd} {w W : World} {e : Ending} (h : ZZ o w e W) : ZZ o w e W.drew := by
 obtain ⟨v, q, e, a, y, n, b⟩ := h
 refine ⟨v, q, e, a, fun hq => ?_, n, ZJ b⟩
 obtain ⟨c, sv, dv, h1, h2, h3, h4, h5⟩ := y hq
 exact ⟨c, sv, dv, h1, h2, Hi (h3.out.below (ZJ (Below.refl _ _))), h4, h5⟩
theorem YN {n0 r : Nat} {w W : World} {a0 a1 a2 a3 a4 a5 a6 a7 a8 : Value} (h : Below n0 w W) (hr : n0 ≤ r := by omega) (hn : n0 ≤ w.heap.size := by omega) : Below n0 w (stC W r a0 a1 a2 a3 a4 a5 a6 a7 a8) :=
 h.grown (stC_grown W r a0 a1 a2 a3 a4 a5 a6 a7 a8) (Nat.le_trans hn h.size) (fun j hj => by cases hj; exact hr)
theorem appR_bad (c : Cmd) (l : List Tok) (d : Tok) (h : d.kind ≠ 6) : appR c (l ++ [d]) = none := by
 simp [appR, h]
theorem appR_one (c : Cmd) (d : Tok) (h : d.kind = 6) : appR c [d] = some { c with data := d.text } := by
 simp [appR, h]
theorem appR_more (c : Cmd) (m : List Tok) (s d : Tok) (h : d.kind = 6) : appR c (m ++ [s] ++ [d]) = if s.kind = 1 then (lsR false m).map fun g => { c with flags := g, data := d.text } else none := by
 unfold lsR
 have h1 : (m ++ [s] ++ [d]).getLast? = some d := by simp
 have h2 : (m ++ [s] ++ [d]).dropLast = m ++ [s] := by simp
 have h3 : (m ++ [s]).getLast? = some s := by simp
 have h4 : (m ++ [s]).dropLast = m := by simp
 have h5 : (m ++ [s]) ≠ [] := by simp
 simp only [appR, h1, h2, h3, h4, h, ne_eq, not_true_eq_false, if_false, h5]
 by_cases hs : s.kind = 1
 · cases lnames m <;> simp [hs]
 · cases lnames m <;> simp [hs]
theorem u8_wrap {f : Nat} (h : f < 32) : IntKind.u8.wrap (f : Int) = (f : Int) := by
 simp only [IntKind.wrap, IntKind.bits, IntKind.signed, Bool.false_and, Int.reducePow]
 simp
 omega
theorem appended_any (A : Option Addr) (k : Nat) (c : Cmd) (ts : List Tok) (hset : c.set = []) (hl : ts.length ≤ 10000) (hc : ts.length ≤ k) (htx : ∀ t ∈ ts, t.kind ≤ 6 ∧ t.text.length ≤ 1000000) (w : World) (hS : SlAt encT 3 w A ts) :
 Calls Tryz.prog 99 #[.agg (cmdA c (.slice none 0 0) (.slice none 0 0)), .slice A ts.length k] w (ZZ (appR c ts) w) := by
 obtain ⟨O, hO⟩ : ∃ O, appR c ts = O := ⟨_, rfl⟩
 rw [hO]
 have HB1 := YB w (.cells (cmdA c (.slice none 0 0) (.slice none 0 0)) 26)
 have HB2 := YA HB1 (YB _ (.cells zeroC 26))
 have hr1 := YD (w.alloc (.cells (cmdA c (.slice none 0 0) (.slice none 0 0)) 26)) (.cells zeroC 26)
 rw [World.size_alloc] at hr1
 have HR := Hi hr1
 have hb1 := ((YB (w.alloc (.cells (cmdA c (.slice none 0 0) (.slice none 0 0)) 26)) (.cells zeroC 26)).block w.heap.size (by simp)).trans (YD w _)
 have HB := Hi HB2
 have HBX := Hi hb1
 have HSZ : Hid (_ = w.heap.size + 1 + 1) := Hi ((World.size_alloc (w.alloc (.cells (cmdA c (.slice none 0 0) (.slice none 0 0)) 26)) (.cells zeroC 26)).trans (by rw [World.size_alloc]))
 unfold cmdA zeroC at *
 have HO := Hi hO
 have HTX := Hi htx
 have HS := Hi hS
 obtain ⟨n, hn⟩ : ∃ n, ts.length = n := ⟨_, rfl⟩
 have HN := Hi hn
 rw [hn]
 clear hb1 hr1 HB1 HB2 hO htx hS hn
 go_enter Tryz.func99, Tryz.ntmps99
 go_upto_region 1 with (fail)
 generalize ((w.alloc (.cells #[.string ⟨c.tag.toArray⟩, .int .i64 (c.kind : Int), .string ⟨c.mbox.toArray⟩, .slice none 0 0, .int .i64 (c.items : Int), .int .i64 (c.mode : Int), .bool c.silent, .int .u8 (c.flags : Int), .slice none 0 0] 26)).alloc (.cells #[.string ⟨#[]⟩, .int .i64 0, .string ⟨#[]⟩, .slice none 0 0, .int .i64 0, .int .i64 0, .bool false, .int .u8 0, .slice none 0 0] 26)) = W2 at *
 obtain ⟨b0, b1, b2, b3, b4, b5, b6, b7, b8⟩ := ZS HBX.out
 have ur := fun j => Joins.unfrozen_of_block HR.out j
 obtain ⟨z0, z1, z2, z3, z4, z5, z6, z7, z8⟩ := ZS HR.out
 rw [HN.out] at hl hc
 rcases List.eq_nil_or_concat ts with rfl | ⟨l, d, rfl⟩
 · have HO : Hid (O = none) := Hi HO.out.symm
   obtain rfl : n = 0 := HN.out.symm
   clear HS HTX hc hl
   go_wp2_with fail
   refine appended_fin (q := false) HR.out ?_ ?_ ?_
   · rfl
   · rfl
   · exact .no HO.out (YN HB.out)
 · rw [List.concat_eq_append] at *
   have hnl : l.length + 1 = n := by rw [← HN.out]; simp
   obtain ⟨b, off, rfl, hbw, hd0, hd1, hd2⟩ := tk_at (HS.out.below HB.out) (j := l.length) (by simp)
   clear hd2
   obtain ⟨_, _, he, hb0, _⟩ := tk_at HS.out (j := l.length) (by simp)
   cases he
   have ed : (l ++ [d])[l.length]'(by simp) = d := by simp
   rw [ed] at hd0 hd1
   have hdt := (HTX.out d (by simp)).2
   obtain ⟨n1, hn1⟩ : ∃ n1, l.length = n1 := ⟨_, rfl⟩
   rw [hn1] at hd0 hd1 hnl
   have g0 : ((n : Int) == 0) = false := by simp; omega
   have g0' : ¬ (n : Int) = 0 := by omega
   have hw1 : IntKind.i64.wrap ((n : Int) - 1) = (n1 : Int) := by rw [show n1 = n - 1 by omega]; exact wrap_sub n 1 (by omega) (by omega)
   have hlt1 : n1 < n := by omega
   by_cases h6 : d.kind = 6
   rotate_left
   · have HO : Hid (O = none) := Hi (by rw [← HO.out]; exact appR_bad c l d h6)
     have f1 : ((d.kind : Int) != 6) = true := by simp; omega
     clear HS HTX h6 hnl hc hl ed hd1
     generalize d.kind = kd at *
     go_wp2_with fail
     refine appended_fin (q := false) HR.out ?_ ?_ ?_
     · rfl
     · rfl
     · exact .no HO.out (YN HB.out)
   · have f1 : ((d.kind : Int) != 6) = false := by rw [h6]; rfl
     obtain ⟨cap, W3, hcv, hb3, hby, hle, hsz3, _⟩ := convB W2 ⟨d.text.toArray⟩ d.text.length (by show d.text.toArray.size = _; simp)
     have hx3 := (hb3.block w.heap.size (by have := HSZ.out; omega)).trans HBX.out
     have hr3 := (hb3.block (w.heap.size + 1) (by have := HSZ.out; omega)).trans HR.out
     have HB3 := Hi (HB.out.trans (hb3.mono (by have := HSZ.out; omega)))
     rw [HSZ.out] at hby hcv hsz3
     have hby : SlAt encB 1 W3 (some ⟨w.heap.size + 1 + 1, 0, none⟩) d.text := hby.sl
     have HX4 : Hid ((W3.setCell ⟨w.heap.size, 8, none⟩ (.slice (some ⟨w.heap.size + 1 + 1, 0, none⟩) d.text.length cap)).heap[w.heap.size]? = some (.cells #[.string ⟨c.tag.toArray⟩, .int .i64 (c.kind : Int), .string ⟨c.mbox.toArray⟩, .slice none 0 0, .int .i64 (c.items : Int), .int .i64 (c.mode : Int), .bool c.silent, .int .u8 (c.flags : Int), (.slice (some ⟨w.heap.size + 1 + 1, 0, none⟩) d.text.length cap)] 26 (0, 0))) := Hi (Joins.block_setCell (i := 8) hx3 (.slice (some ⟨w.heap.size + 1 + 1, 0, none⟩) d.text.length cap))
     have hg4 := YH (World.grownBy.refl W3 (some w.heap.size)) 8 (.slice (some ⟨w.heap.size + 1 + 1, 0, none⟩) d.text.length cap)
     have HR4 := Hi ((hg4.block (w.heap.size + 1) (by omega) (by simp)).trans hr3)
     have HD4 := Hi (slAt_past hby hg4 (fun b off s e => by injection e with e; injection e with e; omega))
     have HB4 := Hi (HB3.out.grown hg4 HB3.out.size (fun j hj => by cases hj; exact Nat.le_refl _))
     obtain ⟨c0, c1, c2, c3, c4, c5, c6, c7, c8⟩ := ZS hx3
     have u8 := Joins.unfrozen_of_block hx3 8
     have u := fun j => Joins.unfrozen_of_block hr3 j
     obtain ⟨y0, y1, y2, y3, y4, y5, y6, y7, y8⟩ := ZS hr3
     have HLE := Hi hle
     rcases List.eq_nil_or_concat l with rfl | ⟨m, s, rfl⟩
     · have HO : Hid (O = some { c with data := d.text }) := Hi (by rw [← HO.out]; exact appR_one c d h6)
       obtain rfl : n1 = 0 := hn1.symm
       have hnn : n = 1 := by omega
       have g1 : ((n : Int) == 1) = true := by rw [hnn]; rfl
       simp only [Nat.zero_mul, Nat.add_zero] at hd0 hd1
       clear HS HTX h6 hnl hc hl ed hg4 hb3 hsz3 hle hby hx3 hr3 hn1
       generalize d.kind = kd at *
       go_wp2_with fail
       refine appended_fin (q := true) HR4.out ?_ ?_ ?_
       · rfl
       · rfl
       · exact .yes (c := { c with data := d.text }) HO.out hset HD4.out HLE.out (stC_grown _ _ _ _ _ _ _ _ _ _ _) (by omega) (by omega) (YN HB4.out)
     · rw [List.concat_eq_append] at *
       have hm1 : m.length + 1 = n1 := by rw [← hn1]; simp
       have HO : Hid (O = if s.kind = 1 then (lsR false m).map fun g => { c with flags := g, data := d.text } else none) := Hi (by rw [← HO.out]; exact appR_more c m s d h6)
       have g1 : ((n : Int) == 1) = false := by simp; omega
       have g1' : ¬ (n : Int) = 1 := by omega
       have hw2 : IntKind.i64.wrap ((n : Int) - 2) = (m.length : Int) := by rw [show m.length = n - 2 by omega]; exact wrap_sub n 2 (by omega) (by omega)
       have s0 := fun x lo hi mx W => sliceAtRT x lo hi mx W
       have s1 := fun W => sliceRT_h (some ⟨b, off, none⟩) n k m.length (by omega) W
       have htk : (m ++ [s] ++ [d]).take m.length = m := by simp
       have LI := Hi (fun W (hW : Below w.heap.size w W) => rlist_any false (some ⟨b, off, none⟩) k m (by omega) (by omega) (fun t ht => HTX.out t (by simp [ht])) W (by have h := slAt_take (hi := m.length) (HS.out.below hW); rw [htk] at h; exact h))
       have HSK : Hid (∀ W, Below w.heap.size w W → W.cell? ⟨b, off + m.length * 3, none⟩ = some (.int .i64 (s.kind : Int))) := Hi (fun W hW => by
        obtain ⟨b', off', he, _, hk, _⟩ := tk_at (HS.out.below hW) (j := m.length) (by simp)
        cases he
        rw [show (m ++ [s] ++ [d])[m.length]'(by simp) = s by simp] at hk
        exact hk)
       have hmn : m.length < n := by omega
       have HS4 := Hi (Nat.le_trans (show w.heap.size + 1 + 1 ≤ W3.heap.size by have := HSZ.out; have := hb3.size; omega) hg4.size)
       clear HS HTX h6 hnl hc hl ed hg4 hb3 hsz3 hle hby hx3 hr3 htk hn1 hm1
       generalize d.kind = kd at *
       go_wp2_with fail
       refine (LI.out _ HB4.out).mono ?_
       rintro e w5 ⟨f, q, rfl, hf, ho, hb5⟩
       have hx5 := (hb5.block w.heap.size (by have := HS4.out; omega)).trans HX4.out
       have hr5 := (hb5.block (w.heap.size + 1) (by have := HS4.out; omega)).trans HR4.out
       have hd5 := HD4.out.below hb5
       have HB5 := Hi (HB4.out.trans (hb5.mono HB4.out.size))
       have x7 := cell_of_row _ _ 7 _ _ _ hx5
       have v7 := Joins.unfrozen_of_block hx5 7
       have hx6 : (w5.setCell ⟨w.heap.size, 7, none⟩ (.int .u8 (f : Int))).heap[w.heap.size]? = some (.cells #[.string ⟨c.tag.toArray⟩, .int .i64 (c.kind : Int), .string ⟨c.mbox.toArray⟩, .slice none 0 0, .int .i64 (c.items : Int), .int .i64 (c.mode : Int), .bool c.silent, .int .u8 (f : Int), (.slice (some ⟨w.heap.size + 1 + 1, 0, none⟩) d.text.length cap)] 26 (0, 0)) := Joins.block_setCell (i := 7) hx5 (.int .u8 (f : Int))
       have hg6 := YH (World.grownBy.refl w5 (some w.heap.size)) 7 (.int .u8 (f : Int))
       have HR6 := Hi ((hg6.block (w.heap.size + 1) (by have := HS4.out; have := hb5.size; omega) (by simp)).trans hr5)
       have HX6 := Hi hx6
       have HD6 := Hi (slAt_past hd5 hg6 (fun b off s e => by injection e with e; injection e with e; omega))
       have HB6 := Hi (HB5.out.grown hg6 HB5.out.size (fun j hj => by cases hj; exact Nat.le_refl _))
       clear hx5 hr5 hd5 hb5 hx6 hg6 HB4 HB5 HX4 HR4 HD4 LI
       clear b0 b1 b2 b3 b4 b5 b6 b7 b8 z0 z1 z2 z3 z4 z5 z6 z7 z8 ur c0 c1 c2 c3 c4 c5 c6 c7 c8 y0 y1 y2 y3 y4 y5 y6 y7 y8 u u8 hd0 hd1 s0 s1
       have hw8 := u8_wrap hf
       go_upto_region 9 with (fail)
       clear x7 v7
       generalize w5.setCell ⟨w.heap.size, 7, none⟩ (.int .u8 (f : Int)) = w6 at *
       obtain ⟨c0, c1, c2, c3, c4, c5, c6, c7, c8⟩ := ZS HX6.out
       obtain ⟨y0, y1, y2, y3, y4, y5, y6, y7, y8⟩ := ZS HR6.out
       have u := fun j => Joins.unfrozen_of_block HR6.out j
       have k0 := HSK.out w6 HB6.out
       clear HSK HB HBX HR
       cases q with
       | false =>
         have HO1 : Hid (O = none) := Hi (by
          rw [HO.out]
          split
          · rw [ho.out]; rfl
          · rfl)
         go_region
         go_wp2_with fail
         refine appended_finD (q := false) HR6.out ?_ ?_ ?_
         · rfl
         · rfl
         · exact .drew (.no HO1.out (YN HB6.out))
       | true =>
         have nb : ¬ b = w.heap.size + 1 := by omega
         have nb' : ¬ w.heap.size + 1 = b := by omega
         have i1 : (0 : Int) ≤ (m.length : Int) := by omega
         have i2 : (m.length : Int) < (n : Int) := by omega
         have i3 : ¬ (m.length : Int) < 0 := by omega
         by_cases h1 : s.kind = 1
         · have HO1 : Hid (O = some { c with flags := f, data := d.text }) := Hi (by rw [HO.out, if_pos h1, ho.out]; rfl)
           have e1 : ((s.kind : Int) == 1) = true := by rw [h1]; rfl
           clear h1
           generalize s.kind = sk at *
           go_big_region
           go_wp2_with fail
           refine appended_finD (q := true) HR6.out ?_ ?_ ?_
           · rfl
           · rfl
           · exact .drew (.yes (c := { c with flags := f, data := d.text }) HO1.out hset HD6.out HLE.out (stC_grown _ _ _ _ _ _ _ _ _ _ _) (by omega) (by omega) (YN HB6.out))
         · have HO1 : Hid (O = none) := Hi (by rw [HO.out, if_neg h1])
           have e1 : ((s.kind : Int) == 1) = false := by simp; omega
           have e2 : ¬ (s.kind : Int) = 1 := by omega
           clear h1
           generalize s.kind = sk at *
           go_big_region
           go_wp2_with fail
           refine appended_finD (q := false) HR6.out ?_ ?_ ?_
           · rfl
           · rfl
           · exact .drew (.no HO1.out (YN HB6.out))
theorem ZH {Q : Ending → World → Prop} {tms : Array Value} {W : World} {r : Nat} {c0 c1 c2 c3 c4 c5 c6 c7 c8 a0 a1 a2 a3 a4 a5 a6 a7 a8 : Value} {T : TypeId} {q : Bool}
 (h : W.heap[r]? = some (.cells #[c0, c1, c2, c3, c4, c5, c6, c7, c8] T (0, 0))) (h4 : tms[4]? = some (.pointer (some ⟨r, 0, none⟩))) (h5 : tms[5]? = some (.bool q))
 (hQ : Q (.returned (.tuple #[.agg #[a0, a1, a2, a3, a4, a5, a6, a7, a8], .bool q])) (stC W r a0 a1 a2 a3 a4 a5 a6 a7 a8)) :
 bodyPost Tryz.prog Tryz.f64 Q Exit.ret { tmps := tms, defers := [] } (stC W r a0 a1 a2 a3 a4 a5 a6 a7 a8) := by
 have hq := stC_block h a0 a1 a2 a3 a4 a5 a6 a7 a8
 generalize stC W r a0 a1 a2 a3 a4 a5 a6 a7 a8 = w9 at *
 have q0 := cell_of_row _ _ 0 _ _ _ hq
 have q1 := cell_of_row _ _ 1 _ _ _ hq
 have q2 := cell_of_row _ _ 2 _ _ _ hq
 have q3 := cell_of_row _ _ 3 _ _ _ hq
 have q4 := cell_of_row _ _ 4 _ _ _ hq
 have q5 := cell_of_row _ _ 5 _ _ _ hq
 have q6 := cell_of_row _ _ 6 _ _ _ hq
 have q7 := cell_of_row _ _ 7 _ _ _ hq
 have q8 := cell_of_row _ _ 8 _ _ _ hq
 clear hq h
 refine bodyPost_ret (v := .tuple #[.agg #[a0, a1, a2, a3, a4, a5, a6, a7, a8], .bool q]) (by simp [results, Tryz.results64, go_sem, h4, h5, q0, q1, q2, q3, q4, q5, q6, q7, q8]) rfl hQ
theorem body_finD {Q : Ending → World → Prop} {tms : Array Value} {W : World} {r : Nat} {c0 c1 c2 c3 c4 c5 c6 c7 c8 a0 a1 a2 a3 a4 a5 a6 a7 a8 : Value} {T : TypeId} {q : Bool}
 (h : W.heap[r]? = some (.cells #[c0, c1, c2, c3, c4, c5, c6, c7, c8] T (0, 0))) (h4 : tms[4]? = some (.pointer (some ⟨r, 0, none⟩))) (h5 : tms[5]? = some (.bool q))
 (hQ : Q (.returned (.tuple #[.agg #[a0, a1, a2, a3, a4, a5, a6, a7, a8], .bool q])) (stC W r a0 a1 a2 a3 a4 a5 a6 a7 a8).drew) :
 bodyPost Tryz.prog Tryz.f64 Q Exit.ret { tmps := tms, defers := [] } (stC W r a0 a1 a2 a3 a4 a5 a6 a7 a8).drew := by
 have hq := stC_block h a0 a1 a2 a3 a4 a5 a6 a7 a8
 generalize stC W r a0 a1 a2 a3 a4 a5 a6 a7 a8 = w8 at *
 have hq8 : w8.drew.heap[r]? = some (.cells #[a0, a1, a2, a3, a4, a5, a6, a7, a8] T (0, 0)) := hq
 clear hq
 have hq := hq8
 clear hq8
 generalize w8.drew = w9 at *
 have q0 := cell_of_row _ _ 0 _ _ _ hq
 have q1 := cell_of_row _ _ 1 _ _ _ hq
 have q2 := cell_of_row _ _ 2 _ _ _ hq
 have q3 := cell_of_row _ _ 3 _ _ _ hq
 have q4 := cell_of_row _ _ 4 _ _ _ hq
 have q5 := cell_of_row _ _ 5 _ _ _ hq
 have q6 := cell_of_row _ _ 6 _ _ _ hq
 have q7 := cell_of_row _ _ 7 _ _ _ hq
 have q8 := cell_of_row _ _ 8 _ _ _ hq
 clear hq h
 refine bodyPost_ret (v := .tuple #[.agg #[a0, a1, a2, a3, a4, a5, a6, a7, a8], .bool q]) (by simp [results, Tryz.results64, go_sem, h4, h5, q0, q1, q2, q3, q4, q5, q6, q7, q8]) rfl hQ
theorem rparse_fin {Q : Ending → World → Prop} {tms : Array Value} {W : World} {r : Nat} {c0 c1 c2 c3 c4 c5 c6 c7 c8 a0 a1 a2 a3 a4 a5 a6 a7 a8 : Value} {T : TypeId} {q : Bool}
 (h : W.heap[r]? = some (.cells #[c0, c1, c2, c3, c4, c5, c6, c7, c8] T (0, 0))) (h4 : tms[2]? = some (.pointer (some ⟨r, 0, none⟩))) (h5 : tms[3]? = some (.bool q))
 (hQ : Q (.returned (.tuple #[.agg #[a0, a1, a2, a3, a4, a5, a6, a7, a8], .bool q])) (stC W r a0 a1 a2 a3 a4 a5 a6 a7 a8)) :
 bodyPost Tryz.prog Tryz.f31 Q Exit.ret { tmps := tms, defers := [] } (stC W r a0 a1 a2 a3 a4 a5 a6 a7 a8) := by
 have hq := stC_block h a0 a1 a2 a3 a4 a5 a6 a7 a8
 generalize stC W r a0 a1 a2 a3 a4 a5 a6 a7 a8 = w9 at *
 have q0 := cell_of_row _ _ 0 _ _ _ hq
 have q1 := cell_of_row _ _ 1 _ _ _ hq
 have q2 := cell_of_row _ _ 2 _ _ _ hq
 have q3 := cell_of_row _ _ 3 _ _ _ hq
 have q4 := cell_of_row _ _ 4 _ _ _ hq
 have q5 := cell_of_row _ _ 5 _ _ _ hq
 have q6 := cell_of_row _ _ 6 _ _ _ hq
 have q7 := cell_of_row _ _ 7 _ _ _ hq
 have q8 := cell_of_row _ _ 8 _ _ _ hq
 clear hq h
 refine bodyPost_ret (v := .tuple #[.agg #[a0, a1, a2, a3, a4, a5, a6, a7, a8], .bool q]) (by simp [results, Tryz.results31, go_sem, h4, h5, q0, q1, q2, q3, q4, q5, q6, q7, q8]) rfl hQ
theorem ZZ.plain {o : Option Cmd} {c : Cmd} {w W9 : World} (ho : o = some c) (hset : c.set = []) (hdat : c.data = []) (hb : Below w.heap.size w W9) :
 ZZ o w (.returned (.tuple #[.agg (cmdA c (.slice none 0 0) (.slice none 0 0)), .bool true])) W9 :=
 ⟨_, true, rfl, Ag.cmd _ _ _ _ _ _ _, fun _ => ⟨c, _, _, rfl, Hi ho, Hi ⟨_, _, rfl, ⟨none, 0, by rw [hset]; rfl, by rw [hset]; exact Nat.le_refl _, .inl hset⟩, none, 0, by rw [hdat]; rfl, by rw [hdat]; exact Nat.le_refl _, .inl hdat⟩,
  fun b off s n k e => (by injection e with e; cases e), fun b off s n k e => (by injection e with e; cases e)⟩, fun e => (by cases e), hb⟩
structure BW (w W : World) (a0 a1 a2 a3 a4 a5 a6 a7 a8 : Value) : Prop where
 hx : W.heap[w.heap.size + 1]? = some (.cells #[a0, a1, a2, a3, a4, a5, a6, a7, a8] 26 (0, 0))
 hr : W.heap[w.heap.size]? = some (.cells #[.string ⟨#[]⟩, .int .i64 0, .string ⟨#[]⟩, .slice none 0 0, .int .i64 0, .int .i64 0, .bool false, .int .u8 0, .slice none 0 0] 26 (0, 0))
 hb : Below w.heap.size w W
 hs : w.heap.size + 1 + 1 ≤ W.heap.size
theorem BW.below {w W W' : World} {a0 a1 a2 a3 a4 a5 a6 a7 a8 : Value} (h : BW w W a0 a1 a2 a3 a4 a5 a6 a7 a8) (hb : Below W.heap.size W W') : BW w W' a0 a1 a2 a3 a4 a5 a6 a7 a8 :=
 ⟨(hb.block _ (by have := h.hs; omega)).trans h.hx, (hb.block _ (by have := h.hs; omega)).trans h.hr, h.hb.trans (hb.mono h.hb.size), Nat.le_trans h.hs hb.size⟩
theorem BW.all {w W : World} {a0 a1 a2 a3 a4 a5 a6 a7 a8 : Value} (h : BW w W a0 a1 a2 a3 a4 a5 a6 a7 a8) :
 (W.cell? ⟨w.heap.size + 1, 0, none⟩ = some a0 ∧ W.cell? ⟨w.heap.size + 1, 1, none⟩ = some a1 ∧ W.cell? ⟨w.heap.size + 1, 2, none⟩ = some a2 ∧ W.cell? ⟨w.heap.size + 1, 3, none⟩ = some a3 ∧ W.cell? ⟨w.heap.size + 1, 4, none⟩ = some a4 ∧ W.cell? ⟨w.heap.size + 1, 5, none⟩ = some a5 ∧ W.cell? ⟨w.heap.size + 1, 6, none⟩ = some a6 ∧ W.cell? ⟨w.heap.size + 1, 7, none⟩ = some a7 ∧ W.cell? ⟨w.heap.size + 1, 8, none⟩ = some a8) ∧
 (W.cell? ⟨w.heap.size, 0, none⟩ = some (.string ⟨#[]⟩) ∧ W.cell? ⟨w.heap.size, 1, none⟩ = some (.int .i64 0) ∧ W.cell? ⟨w.heap.size, 2, none⟩ = some (.string ⟨#[]⟩) ∧ W.cell? ⟨w.heap.size, 3, none⟩ = some (.slice none 0 0) ∧ W.cell? ⟨w.heap.size, 4, none⟩ = some (.int .i64 0) ∧ W.cell? ⟨w.heap.size, 5, none⟩ = some (.int .i64 0) ∧ W.cell? ⟨w.heap.size, 6, none⟩ = some (.bool false) ∧ W.cell? ⟨w.heap.size, 7, none⟩ = some (.int .u8 0) ∧ W.cell? ⟨w.heap.size, 8, none⟩ = some (.slice none 0 0)) ∧
 (∀ j, W.frozen? ⟨w.heap.size, j, none⟩ = false) ∧ (∀ j, W.frozen? ⟨w.heap.size + 1, j, none⟩ = false) :=
 ⟨ZS h.hx, ZS h.hr, fun j => Joins.unfrozen_of_block h.hr j, fun j => Joins.unfrozen_of_block h.hx j⟩
def TokAt (w : World) (b off : Nat) (L : List Tok) : Prop := ∀ W, Below w.heap.size w W → ∀ j (hj : j < L.length), W.cell? ⟨b, off + j * 3, none⟩ = some (.int .i64 (L[j].kind : Int)) ∧ W.cell? ⟨b, off + j * 3 + 1, none⟩ = some (.string ⟨L[j].text.toArray⟩) ∧ W.cell? ⟨b, off + j * 3 + 2, none⟩ = some (.int .i64 (L[j].at_ : Int))
theorem tokAt {w : World} {b off : Nat} {L : List Tok} (h : SlAt encT 3 w (some ⟨b, off, none⟩) L) : TokAt w b off L := fun W hW j hj => by
 obtain ⟨b', off', he, _, h1, h2, h3⟩ := tk_at (h.below hW) hj
 cases he
 exact ⟨h1, h2, h3⟩
theorem TokAt.at {w W : World} {b off : Nat} {L : List Tok} (h : TokAt w b off L) (hW : Below w.heap.size w W) (j q q1 q2 : Nat) {x : Tok} (hx : L[j]? = some x) (e : j * 3 = q) (e1 : q + 1 = q1) (e2 : q + 2 = q2) :
 W.cell? ⟨b, off + q, none⟩ = some (.int .i64 (x.kind : Int)) ∧ W.cell? ⟨b, off + q1, none⟩ = some (.string ⟨x.text.toArray⟩) ∧ W.cell? ⟨b, off + q2, none⟩ = some (.int .i64 (x.at_ : Int)) ∧ W.cell? ⟨b, off + q + 1, none⟩ = some (.string ⟨x.text.toArray⟩) ∧ W.cell? ⟨b, off + q + 2, none⟩ = some (.int .i64 (x.at_ : Int)) := by
 obtain ⟨hj, rfl⟩ := List.getElem?_eq_some_iff.1 hx
 subst e e1 e2
 obtain ⟨h1, h2, h3⟩ := h W hW j hj
 exact ⟨h1, h2, h3, h2, h3⟩
theorem BW.set1 {w W : World} {a0 a1 a2 a3 a4 a5 a6 a7 a8 : Value} (h : BW w W a0 a1 a2 a3 a4 a5 a6 a7 a8) (v : Value) : BW w (W.setCell ⟨w.heap.size + 1, 1, none⟩ v) a0 v a2 a3 a4 a5 a6 a7 a8 :=
 have hg := YH (World.grownBy.refl W (some (w.heap.size + 1))) 1 v
 ⟨Joins.block_setCell (i := 1) h.hx v, (hg.block _ (by have := h.hs; omega) (by simp)).trans h.hr, h.hb.grown hg h.hb.size (fun j hj => by cases hj; exact Nat.le_succ _), Nat.le_trans h.hs hg.size⟩
theorem BW.set2 {w W : World} {a0 a1 a2 a3 a4 a5 a6 a7 a8 : Value} (h : BW w W a0 a1 a2 a3 a4 a5 a6 a7 a8) (v : Value) : BW w (W.setCell ⟨w.heap.size + 1, 2, none⟩ v) a0 a1 v a3 a4 a5 a6 a7 a8 :=
 have hg := YH (World.grownBy.refl W (some (w.heap.size + 1))) 2 v
 ⟨Joins.block_setCell (i := 2) h.hx v, (hg.block _ (by have := h.hs; omega) (by simp)).trans h.hr, h.hb.grown hg h.hb.size (fun j hj => by cases hj; exact Nat.le_succ _), Nat.le_trans h.hs hg.size⟩
theorem BW.set3 {w W : World} {a0 a1 a2 a3 a4 a5 a6 a7 a8 : Value} (h : BW w W a0 a1 a2 a3 a4 a5 a6 a7 a8) (v : Value) : BW w (W.setCell ⟨w.heap.size + 1, 3, none⟩ v) a0 a1 a2 v a4 a5 a6 a7 a8 :=
 have hg := YH (World.grownBy.refl W (some (w.heap.size + 1))) 3 v
 ⟨Joins.block_setCell (i := 3) h.hx v, (hg.block _ (by have := h.hs; omega) (by simp)).trans h.hr, h.hb.grown hg h.hb.size (fun j hj => by cases hj; exact Nat.le_succ _), Nat.le_trans h.hs hg.size⟩
theorem BW.set4 {w W : World} {a0 a1 a2 a3 a4 a5 a6 a7 a8 : Value} (h : BW w W a0 a1 a2 a3 a4 a5 a6 a7 a8) (v : Value) : BW w (W.setCell ⟨w.heap.size + 1, 4, none⟩ v) a0 a1 a2 a3 v a5 a6 a7 a8 :=
 have hg := YH (World.grownBy.refl W (some (w.heap.size + 1))) 4 v
 ⟨Joins.block_setCell (i := 4) h.hx v, (hg.block _ (by have := h.hs; omega) (by simp)).trans h.hr, h.hb.grown hg h.hb.size (fun j hj => by cases hj; exact Nat.le_succ _), Nat.le_trans h.hs hg.size⟩
theorem BW.set5 {w W : World} {a0 a1 a2 a3 a4 a5 a6 a7 a8 : Value} (h : BW w W a0 a1 a2 a3 a4 a5 a6 a7 a8) (v : Value) : BW w (W.setCell ⟨w.heap.size + 1, 5, none⟩ v) a0 a1 a2 a3 a4 v a6 a7 a8 :=
 have hg := YH (World.grownBy.refl W (some (w.heap.size + 1))) 5 v
 ⟨Joins.block_setCell (i := 5) h.hx v, (hg.block _ (by have := h.hs; omega) (by simp)).trans h.hr, h.hb.grown hg h.hb.size (fun j hj => by cases hj; exact Nat.le_succ _), Nat.le_trans h.hs hg.size⟩
theorem BW.set6 {w W : World} {a0 a1 a2 a3 a4 a5 a6 a7 a8 : Value} (h : BW w W a0 a1 a2 a3 a4 a5 a6 a7 a8) (v : Value) : BW w (W.setCell ⟨w.heap.size + 1, 6, none⟩ v) a0 a1 a2 a3 a4 a5 v a7 a8 :=
 have hg := YH (World.grownBy.refl W (some (w.heap.size + 1))) 6 v
 ⟨Joins.block_setCell (i := 6) h.hx v, (hg.block _ (by have := h.hs; omega) (by simp)).trans h.hr, h.hb.grown hg h.hb.size (fun j hj => by cases hj; exact Nat.le_succ _), Nat.le_trans h.hs hg.size⟩
theorem BW.set7 {w W : World} {a0 a1 a2 a3 a4 a5 a6 a7 a8 : Value} (h : BW w W a0 a1 a2 a3 a4 a5 a6 a7 a8) (v : Value) : BW w (W.setCell ⟨w.heap.size + 1, 7, none⟩ v) a0 a1 a2 a3 a4 a5 a6 v a8 :=
 have hg := YH (World.grownBy.refl W (some (w.heap.size + 1))) 7 v
 ⟨Joins.block_setCell (i := 7) h.hx v, (hg.block _ (by have := h.hs; omega) (by simp)).trans h.hr, h.hb.grown hg h.hb.size (fun j hj => by cases hj; exact Nat.le_succ _), Nat.le_trans h.hs hg.size⟩
theorem BW.start (w : World) (tag : List UInt8) : BW w ((w.alloc (.cells #[.string ⟨#[]⟩, .int .i64 0, .string ⟨#[]⟩, .slice none 0 0, .int .i64 0, .int .i64 0, .bool false, .int .u8 0, .slice none 0 0] 26)).alloc (.cells #[.string ⟨tag.toArray⟩, .int .i64 0, .string ⟨#[]⟩, .slice none 0 0, .int .i64 0, .int .i64 0, .bool false, .int .u8 0, .slice none 0 0] 26)) (.string ⟨tag.toArray⟩) (.int .i64 0) (.string ⟨#[]⟩) (.slice none 0 0) (.int .i64 0) (.int .i64 0) (.bool false) (.int .u8 0) (.slice none 0 0) := by
 have hx := YD (w.alloc (.cells #[.string ⟨#[]⟩, .int .i64 0, .string ⟨#[]⟩, .slice none 0 0, .int .i64 0, .int .i64 0, .bool false, .int .u8 0, .slice none 0 0] 26)) (.cells #[.string ⟨tag.toArray⟩, .int .i64 0, .string ⟨#[]⟩, .slice none 0 0, .int .i64 0, .int .i64 0, .bool false, .int .u8 0, .slice none 0 0] 26)
 rw [World.size_alloc] at hx
 exact ⟨hx, ((YB (w.alloc (.cells #[.string ⟨#[]⟩, .int .i64 0, .string ⟨#[]⟩, .slice none 0 0, .int .i64 0, .int .i64 0, .bool false, .int .u8 0, .slice none 0 0] 26)) _).block w.heap.size (by simp)).trans (YD w _), YA (YB w _) (YB _ _), by rw [World.size_alloc, World.size_alloc]; exact Nat.le_refl _⟩
theorem slAt_setx {α : Type} {enc : α → List Value} {k : Nat} {w W : World} {A : Option Addr} {l : List α} (h : SlAt enc k W A l) (hne : ∀ b off s, A = some ⟨b, off, s⟩ → w.heap.size + 2 ≤ b) (i : Nat) (v : Value) : SlAt enc k (W.setCell ⟨w.heap.size + 1, i, none⟩ v) A l :=
 slAt_past h (YH (World.grownBy.refl W (some (w.heap.size + 1))) i v) (fun b off s e => by have := hne b off s e; omega)
theorem ZZ.sets {o : Option Cmd} {c : Cmd} {A : Option Addr} {cap : Nat} {w W W9 : World} (ho : o = some c) (hdat : c.data = []) (hd : SlAt encR 2 W A c.set) (hle : c.set.length ≤ cap) (hg : W.grownBy W9 (some w.heap.size)) (hne : ∀ b off s, A = some ⟨b, off, s⟩ → w.heap.size + 2 ≤ b) (hb : Below w.heap.size w W9) :
 ZZ o w (.returned (.tuple #[.agg (cmdA c (.slice A c.set.length cap) (.slice none 0 0)), .bool true])) W9 :=
 ⟨_, true, rfl, Ag.cmd _ _ _ _ _ _ _, fun _ => ⟨c, _, _, rfl, Hi ho, Hi ⟨_, _, rfl, ⟨_, _, rfl, hle, slAt_past hd hg (fun b off s e => by have := hne b off s e; omega)⟩, none, 0, by rw [hdat]; rfl, by rw [hdat]; exact Nat.le_refl _, .inl hdat⟩,
  fun b off s n k e => (by injection e with e; have := hne b off s e; omega), fun b off s n k e => (by injection e with e; cases e)⟩, fun e => (by cases e), hb⟩
theorem bodyR_no4 (tag : List UInt8) {t : Tok} {r : List Tok} (h : t.kind ≠ 4) : YM tag (t :: r) = none := by simp [YM, h]
theorem bodyR_zero (tag : List UInt8) {t : Tok} {r : List Tok} (h : YC t.text = 0) : YM tag (t :: r) = none := by simp [YM, h]
theorem bodyR_low (tag : List UInt8) {t : Tok} {r : List Tok} (h4 : t.kind = 4) (h0 : YC t.text ≠ 0) (h : YC t.text ≤ 4) : YM tag (t :: r) = if r = [] then some { cmd0 tag with kind := YC t.text } else none := by simp [YM, h4, h0, h]
theorem bodyR_short (tag : List UInt8) {t : Tok} {r : List Tok} (h : 4 < YC t.text) (hn : (t :: r).length < 3) : YM tag (t :: r) = none := by
 have h5 : ¬ YC t.text ≤ 4 := by omega
 rcases r with _ | ⟨s, _ | ⟨m, q⟩⟩
 · by_cases h4 : t.kind = 4 <;> simp [YM, h4, h5]
 · by_cases h4 : t.kind = 4 <;> simp [YM, h4, h5]
 · simp at hn; omega
theorem bodyR_nos (tag : List UInt8) {t s m : Tok} {q : List Tok} (h : 4 < YC t.text) (hs : s.kind ≠ 1) : YM tag (t :: s :: m :: q) = none := by
 have h5 : ¬ YC t.text ≤ 4 := by omega
 by_cases h4 : t.kind = 4 <;> simp [YM, h4, h5, hs]
theorem bodyR_mbox (tag : List UInt8) {t s m : Tok} {q : List Tok} (h4 : t.kind = 4) (h : 4 < YC t.text) (h6 : YC t.text ≤ 6) (hs : s.kind = 1) : YM tag (t :: s :: m :: q) =
 if mboxR m = false then none else if YC t.text = 5 then (if q = [] then some { cmd0 tag with kind := YC t.text, mbox := m.text } else none) else
  match q with
  | z :: d => if z.kind = 1 then appR { cmd0 tag with kind := YC t.text, mbox := m.text } d else none
  | [] => none := by
 have h5 : ¬ YC t.text ≤ 4 := by omega
 have h0 : ¬ YC t.text = 0 := by omega
 rcases q with _ | ⟨z, d⟩ <;> simp only [YM, h4, h0, h5, h6, hs, ne_eq, not_true_eq_false, or_self, if_false, if_true]
theorem bodyR_set (tag : List UInt8) {t s m : Tok} {q : List Tok} (h4 : t.kind = 4) (h : 6 < YC t.text) (hs : s.kind = 1) : YM tag (t :: s :: m :: q) =
 if m.kind ≠ 4 ∨ (YP m.text).2 = false then none else
  match q with
  | z :: d => if z.kind = 1 ∧ d ≠ [] then (if YC t.text = 7 then fetR { cmd0 tag with kind := YC t.text, set := (YP m.text).1 } d else stoR { cmd0 tag with kind := YC t.text, set := (YP m.text).1 } d) else none
  | [] => none := by
 have h5 : ¬ YC t.text ≤ 4 := by omega
 have h6 : ¬ YC t.text ≤ 6 := by omega
 have h0 : ¬ YC t.text = 0 := by omega
 rcases q with _ | ⟨z, d⟩ <;> simp only [YM, h4, h0, h5, h6, hs, ne_eq, not_true_eq_false, or_self, if_false]
end Go.Proofs.YtpgfnlhfciacoaaGreatDoor
