import Derived.Test.YtpgfnlhfciacoaaGreatDoorPCmdParse
import Derived.Defers
import Derived.Recover
import Derived.RegionDies
set_option maxRecDepth 100000
set_option maxHeartbeats 4000000
open Go.Lib renaming hid → Hi
namespace Go.Proofs.YtpgfnlhfciacoaaGreatDoor
open Go.RowKit Go.Maps Go.Shelf
theorem parse7_ok (B c : Nat) (A : Option Addr) (tag l : List UInt8) (hl : l.length ≤ 9000) (w : World) (henv : Env w) (hA : ByAt B w A c l) {ts : List Tok} {cm : Cmd} (ht : IsToks l ts (-1)) (hb : bodyO tag ts = some cm) :
 Calls Tryz.prog 35 #[.string ⟨tag.toArray⟩, .slice A l.length c] w fun e w' => ∃ sv dv, e = .returned (.agg (cmdA cm sv dv)) ∧ Hid (CmdV w' cm (.agg (cmdA cm sv dv))) ∧ Hid (NewS w.heap.size sv ∧ NewS w.heap.size dv) ∧ Below w.heap.size w w' := by
 refine (parse7_any B c A tag l hl w henv hA).mono ?_
 rintro e w' (⟨us, c', sv, dv, h1, h2, rfl, h3, h5, h4⟩ | ⟨us, x, h1, h2, rfl, h4⟩)
 · obtain ⟨rfl, _⟩ := ht.det h1.out
   have := h2.out
   rw [hb] at this
   simp at this
   subst this
   exact ⟨sv, dv, rfl, h3, h5, h4⟩
 · obtain ⟨rfl, rfl⟩ := ht.det h1.out
   rcases h2.out with h | h
   · exact absurd rfl h
   · rw [hb] at h; cases h
theorem parse7_no (B c : Nat) (A : Option Addr) (tag l : List UInt8) (hl : l.length ≤ 9000) (w : World) (henv : Env w) (hA : ByAt B w A c l) (hn : ∀ ts, IsToks l ts (-1) → bodyO tag ts = none) :
 Calls Tryz.prog 35 #[.string ⟨tag.toArray⟩, .slice A l.length c] w fun e w' => (∃ ts x, Hid (IsToks l ts x) ∧ Hid (x ≠ -1 ∨ bodyO tag ts = none)) ∧ e = .panicked syn ∧ Below w.heap.size w w' := by
 refine (parse7_any B c A tag l hl w henv hA).mono ?_
 rintro e w' (⟨us, c', sv, dv, h1, h2, rfl, h3, h5, h4⟩ | ⟨us, x, h1, h2, rfl, h4⟩)
 · have := h2.out
   rw [hn us h1.out] at this
   cases this
 · exact ⟨⟨us, x, h1, h2⟩, rfl, h4⟩
set_option linter.unusedSimpArgs false in
theorem catch_raw (tb cb ob : Nat) (tag : ByteArray) (c0 c1 c2 c3 c4 c5 c6 c7 c8 x : Value) (T T2 : TypeId) (u : TypeId) (pv : Value) (older : List PanicEntry) (w : World) (hne : cb ≠ ob)
 (ht : w.cell? ⟨tb, 0, none⟩ = some (.string tag)) (hc : w.heap[cb]? = some (.cells #[c0, c1, c2, c3, c4, c5, c6, c7, c8] T (0, 0))) (ho : w.heap[ob]? = some (.cells #[x] T2 (0, 0))) :
 CallsD Tryz.prog 33 #[.pointer (some ⟨tb, 0, none⟩), .pointer (some ⟨cb, 0, none⟩), .pointer (some ⟨ob, 0, none⟩)] (.panicking ({ v := .iface u pv, recovered := false } :: older)) w fun e u' w' =>
  e = .returned (.tuple #[]) ∧ u' = .panicking ({ v := .iface u pv, recovered := true } :: older) ∧ w' = (stC w cb (.string tag) (.int .i64 0) (.string ⟨#[]⟩) (.slice none 0 0) (.int .i64 0) (.int .i64 0) (.bool false) (.int .u8 0) (.slice none 0 0)).setCell ⟨ob, 0, none⟩ (.bool false) := by
 have d0 := cell_of_row _ _ 0 _ _ _ hc
 have d1 := cell_of_row _ _ 1 _ _ _ hc
 have d2 := cell_of_row _ _ 2 _ _ _ hc
 have d3 := cell_of_row _ _ 3 _ _ _ hc
 have d4 := cell_of_row _ _ 4 _ _ _ hc
 have d5 := cell_of_row _ _ 5 _ _ _ hc
 have d6 := cell_of_row _ _ 6 _ _ _ hc
 have d7 := cell_of_row _ _ 7 _ _ _ hc
 have d8 := cell_of_row _ _ 8 _ _ _ hc
 have o0 := cell_of_row _ _ 0 _ _ _ ho
 have fc := fun j => Joins.unfrozen_of_block hc j
 have fo := fun j => Joins.unfrozen_of_block ho j
 have hne2 : ¬ ob = cb := fun e => hne e.symm
 refine callsD_of_wpS Tryz.func33 rfl fun c₀ cs hu => ?_
 apply wpS_seq
 apply wpS_region
 simp [wpOpsS, go_sem, recoverD, hu, Tryz.ntmps33, Exit.thenS]
 refine wpS_cond (t := true) (by simp [Act.eval, Array.replicate]) ?_
 simp only [if_true]
 apply wpS_region
 simp [wpOpsS, go_sem, ht, d0, d1, d2, d3, d4, d5, d6, d7, d8, o0, fc, fo, hne, hne2, bodyPostS, results, Tryz.results33]
 rfl
theorem catch_panicking (n0 tb cb ob : Nat) (tag : List UInt8) (c0 c1 c2 c3 c4 c5 c6 c7 c8 x : Value) (T T2 : TypeId) (older : List PanicEntry) (w : World) (hne : cb ≠ ob) (hn1 : n0 ≤ cb) (hn2 : n0 ≤ ob)
 (ht : w.cell? ⟨tb, 0, none⟩ = some (.string ⟨tag.toArray⟩)) (hc : w.heap[cb]? = some (.cells #[c0, c1, c2, c3, c4, c5, c6, c7, c8] T (0, 0))) (ho : w.heap[ob]? = some (.cells #[x] T2 (0, 0))) (u : TypeId) (pv : Value) :
 CallsD Tryz.prog 33 #[.pointer (some ⟨tb, 0, none⟩), .pointer (some ⟨cb, 0, none⟩), .pointer (some ⟨ob, 0, none⟩)] (.panicking ({ v := .iface u pv, recovered := false } :: older)) w fun e u' w' =>
  e = .returned (.tuple #[]) ∧ u' = .panicking ({ v := .iface u pv, recovered := true } :: older) ∧ w'.heap[cb]? = some (.cells #[.string ⟨tag.toArray⟩, .int .i64 0, .string ⟨#[]⟩, .slice none 0 0, .int .i64 0, .int .i64 0, .bool false, .int .u8 0, .slice none 0 0] T (0, 0)) ∧ w'.heap[ob]? = some (.cells #[.bool false] T2 (0, 0)) ∧ Below n0 w w' := by
 refine (catch_raw tb cb ob ⟨tag.toArray⟩ c0 c1 c2 c3 c4 c5 c6 c7 c8 x T T2 u pv older w hne ht hc ho).mono ?_
 rintro e u' w' ⟨rfl, rfl, rfl⟩
 have hg := stC_grown w cb (.string ⟨tag.toArray⟩) (.int .i64 0) (.string ⟨#[]⟩) (.slice none 0 0) (.int .i64 0) (.int .i64 0) (.bool false) (.int .u8 0) (.slice none 0 0)
 have hb := stC_block hc (.string ⟨tag.toArray⟩) (.int .i64 0) (.string ⟨#[]⟩) (.slice none 0 0) (.int .i64 0) (.int .i64 0) (.bool false) (.int .u8 0) (.slice none 0 0)
 generalize stC w cb (.string ⟨tag.toArray⟩) (.int .i64 0) (.string ⟨#[]⟩) (.slice none 0 0) (.int .i64 0) (.int .i64 0) (.bool false) (.int .u8 0) (.slice none 0 0) = w2 at *
 have ho2 : w2.heap[ob]? = some (.cells #[x] T2 (0, 0)) := (hg.block ob (Array.getElem?_eq_some_iff.1 ho).1 (fun e => hne (by injection e with e; exact e.symm))).trans ho
 have hlt := (Array.getElem?_eq_some_iff.1 hb).1
 have hg2 := ZG w2 ob 0 (.bool false)
 refine ⟨rfl, rfl, (hg2.block cb hlt (fun e => hne (by injection e))).trans hb, by rw [Joins.block_setCell ho2]; rfl, ?_⟩
 have hs : n0 ≤ w.heap.size := by have := (Array.getElem?_eq_some_iff.1 hc).1; omega
 have hs2 := hg.size
 exact ((Below.refl n0 w).grown hg hs (fun j hj => by cases hj; exact hn1)).grown hg2 (by omega) (fun j hj => by cases hj; exact hn2)
theorem catch_idle (p q r : Addr) (w : World) :
 CallsD Tryz.prog 33 #[.pointer (some p), .pointer (some q), .pointer (some r)] .returning w fun e u' w' => e = .returned (.tuple #[]) ∧ u' = .returning ∧ w' = w := by
 refine callsD_of_wpS Tryz.func33 rfl fun c₀ cs hu => ?_
 apply wpS_seq
 apply wpS_region
 simp [wpOpsS, go_sem, recoverD, hu, Tryz.ntmps33, Exit.thenS]
 refine wpS_cond (t := false) (by simp [Act.eval, Array.replicate]) ?_
 simp only [Bool.false_eq_true, if_false]
 refine wpS_of_wp (wp_skip ?_)
 cases c₀
 simp_all [bodyPostS, results, Tryz.results33]
def NewV (n : Nat) (v : Value) : Prop := ∃ c sv dv, v = .agg (cmdA c sv dv) ∧ NewS n sv ∧ NewS n dv
theorem NewS.nil (n : Nat) : NewS n (.slice none 0 0) := fun b off s n k e => by injection e with e; cases e
theorem NewV.zero (n : Nat) (t : List UInt8) : NewV n (.agg #[.string ⟨t.toArray⟩, .int .i64 0, .string ⟨#[]⟩, .slice none 0 0, .int .i64 0, .int .i64 0, .bool false, .int .u8 0, .slice none 0 0]) := ⟨cmd0 t, _, _, rfl, NewS.nil _, NewS.nil _⟩
theorem NewS.mono {n m : Nat} {v : Value} (h : NewS n v) (hle : m ≤ n) : NewS m v := fun b off s n k e => Nat.le_trans hle (h b off s n k e)
def CPost (l : List UInt8) (w : World) (e : Ending) (w' : World) : Prop :=
 ∃ c b v, IsCmd l c b ∧ e = .returned (.tuple #[v, .bool b]) ∧ (CmdV w' c v ∧ NewV w.heap.size v) ∧ Below w.heap.size w w'
theorem door_panic (l tag : List UInt8) (tb cb ob : Nat) (c0 c1 c2 c3 c4 c5 c6 c7 c8 x : Value) (w W : World) (tm : Array Value) (hne : cb ≠ ob) (hn1 : w.heap.size ≤ cb) (hn2 : w.heap.size ≤ ob) (hB : Below w.heap.size w W)
 (ht : W.cell? ⟨tb, 0, none⟩ = some (.string ⟨tag.toArray⟩)) (hc : W.heap[cb]? = some (.cells #[c0, c1, c2, c3, c4, c5, c6, c7, c8] 26 (0, 0))) (ho : W.heap[ob]? = some (.cells #[x] 4 (0, 0)))
 (h2 : tm[2]? = some (.pointer (some ⟨cb, 0, none⟩))) (h3 : tm[3]? = some (.pointer (some ⟨ob, 0, none⟩))) (hi : IsCmd l (cmd0 tag) false) :
 bodyPostD Tryz.prog Tryz.f22 (CPost l w) (Exit.panic syn) { tmps := tm, defers := [{ target := Target.fn (Fn.func 33) #[.pointer (some ⟨tb, 0, none⟩), .pointer (some ⟨cb, 0, none⟩), .pointer (some ⟨ob, 0, none⟩)], args := #[] }] } W := by
 refine leaves_cons (f := 33) (args := #[.pointer (some ⟨tb, 0, none⟩), .pointer (some ⟨cb, 0, none⟩), .pointer (some ⟨ob, 0, none⟩)]) (by simp) (by simp [go_sem]) ?_
 refine (catch_panicking w.heap.size tb cb ob tag c0 c1 c2 c3 c4 c5 c6 c7 c8 x _ _ [] W hne hn1 hn2 ht hc ho _ _).mono ?_
 rintro e u' w2 ⟨rfl, rfl, hc2, ho2, hb2⟩
 have q0 := cell_of_row _ _ 0 _ _ _ hc2
 have q1 := cell_of_row _ _ 1 _ _ _ hc2
 have q2 := cell_of_row _ _ 2 _ _ _ hc2
 have q3 := cell_of_row _ _ 3 _ _ _ hc2
 have q4 := cell_of_row _ _ 4 _ _ _ hc2
 have q5 := cell_of_row _ _ 5 _ _ _ hc2
 have q6 := cell_of_row _ _ 6 _ _ _ hc2
 have q7 := cell_of_row _ _ 7 _ _ _ hc2
 have q8 := cell_of_row _ _ 8 _ _ _ hc2
 have r0 := cell_of_row _ _ 0 _ _ _ ho2
 refine ⟨.tuple #[.agg #[.string ⟨tag.toArray⟩, .int .i64 0, .string ⟨#[]⟩, .slice none 0 0, .int .i64 0, .int .i64 0, .bool false, .int .u8 0, .slice none 0 0], .bool false], by simp [results, Tryz.results22, go_sem, h2, h3, q0, q1, q2, q3, q4, q5, q6, q7, q8, r0], cmd0 tag, false, _, hi, rfl, ⟨CmdV.zero _ _, NewV.zero _ _⟩, hB.trans hb2⟩
theorem command_none (B c : Nat) (A : Option Addr) (l : List UInt8) (hl : l.length ≤ 9000) (w : World) (hA : ByAt B w A c l) (hno : tagO l = none) :
 Calls Tryz.prog 22 #[.slice A l.length c] w (CPost l w) := by
 have hmf : ∀ (fn : Fn) (first cap : Array Value) (w : World), (Instr.makeFunc fn first cap).run Tryz.prog w = .ok (.func fn first cap) w := fun _ _ _ _ => rfl
 have NF := Hi (fun w1 => need_f w1)
 have B1 := YB w (.cells #[.string ⟨#[]⟩, .int .i64 0, .string ⟨#[]⟩, .slice none 0 0, .int .i64 0, .int .i64 0, .bool false, .int .u8 0, .slice none 0 0] 26)
 have B2 := YA B1 (YB _ (.cells #[.bool false] 4))
 have TG := tagTok_any B A c l l.length rfl (by omega) _ (hA.grow B2)
 rw [show tagV l = .tuple #[.string ⟨#[]⟩, .int .i64 0, .bool false] by unfold tagV; rw [hno]] at TG
 have TG := Hi TG
 have HB2 := Hi B2
 have hr1 := YD w (.cells #[.string ⟨#[]⟩, .int .i64 0, .string ⟨#[]⟩, .slice none 0 0, .int .i64 0, .int .i64 0, .bool false, .int .u8 0, .slice none 0 0] 26)
 have hr2 := ((YB (w.alloc (.cells #[.string ⟨#[]⟩, .int .i64 0, .string ⟨#[]⟩, .slice none 0 0, .int .i64 0, .int .i64 0, .bool false, .int .u8 0, .slice none 0 0] 26)) (.cells #[.bool false] 4)).block w.heap.size (by simp)).trans hr1
 have hr3 := YD (w.alloc (.cells #[.string ⟨#[]⟩, .int .i64 0, .string ⟨#[]⟩, .slice none 0 0, .int .i64 0, .int .i64 0, .bool false, .int .u8 0, .slice none 0 0] 26)) (.cells #[.bool false] 4)
 rw [World.size_alloc] at hr3
 have HR2 := Hi hr2
 have HR3 := Hi hr3
 have HNO := Hi hno
 have HL := Hi hl
 clear hA B1 B2 hr1 hr2 hr3 hno hl
 go_enter_defers Tryz.func22, Tryz.ntmps22
 go_wp2_with fail
 refine TG.out.mono ?_
 rintro e w1 ⟨rfl, hb⟩
 have hs1 := hb.size
 rw [World.size_alloc, World.size_alloc] at hs1
 have HR2' := Hi ((hb.block w.heap.size (by simp; omega)).trans HR2.out)
 have HR3' := Hi ((hb.block (w.heap.size + 1) (by simp)).trans HR3.out)
 have HB3 := Hi (YA HB2.out hb)
 clear hb TG HR2 HR3 HB2
 go_wp2_with fail
 refine (NF.out _).mono ?_
 rintro e w2 ⟨rfl, rfl⟩
 refine door_panic l [] w1.heap.size w.heap.size (w.heap.size + 1) _ _ _ _ _ _ _ _ _ _ w _ _ (by omega) (Nat.le_refl _) (by omega) (HB3.out.trans ((YB w1 _).mono (by omega))) (by simp) (((YB w1 _).block _ (by omega)).trans HR2'.out) (((YB w1 _).block _ (by omega)).trans HR3'.out) rfl rfl (.noTag HNO.out)
noncomputable def topOps : Array Oper :=
 match Tryz.f22.body with
 | some (Code.seq _ (Code.seq _ (Code.seq _ (Code.seq _ (Code.seq (Code.region _ ops _) _))))) => ops
 | _ => #[]
theorem top_size : topOps.size = 7 := by kernel_rfl
theorem top_before : ∀ (i : Nat) (o : Oper), topOps[i]? = some o → ∀ e ∈ o.after, e.on < i := by
 have h : (List.range topOps.size).all (fun i => (topOps[i]?).all fun o => o.after.all fun e => decide (e.on < i)) = true := by kernel_rfl
 intro i o ho e he
 rw [List.all_eq_true] at h
 have h1 := h i (List.mem_range.2 (Array.getElem?_eq_some_iff.1 ho).1)
 rw [ho] at h1
 have h2 : o.after.all (fun e => decide (e.on < i)) = true := h1
 rw [Array.all_eq_true'] at h2
 simpa using h2 e he
def OpT (i : Nat) (dst : Option Nat) (op : Op) (ws : List Nat) : Prop := ∃ o, topOps[i]? = some o ∧ o.guard = none ∧ o.dst = dst ∧ o.op = op ∧ ∀ n ∈ ws, ∃ e ∈ o.after, Region.binds .any e = true ∧ e.on = n
theorem top_0 : OpT 0 (some 16) (.load 9 (.tmp 4)) [] := ⟨_, by rfl, by rfl, by rfl, by rfl, by simp⟩
theorem top_1 : OpT 1 (some 17) (.move (.tmp 0)) [] := ⟨_, by rfl, by rfl, by rfl, by rfl, by simp⟩
theorem top_2 : OpT 2 (some 18) (.move (.tmp 5)) [] := ⟨_, by rfl, by rfl, by rfl, by rfl, by simp⟩
theorem top_3 : OpT 3 (some 19) (.slice 24 (.tmp 17) (some (.tmp 18)) none none) [1, 2] :=
 ⟨_, by rfl, by rfl, by rfl, by rfl, fun n hn => by
  simp at hn
  rcases hn with rfl | rfl
  · exact ⟨_, Array.mem_of_getElem? (i := 0) rfl, by rfl, by rfl⟩
  · exact ⟨_, Array.mem_of_getElem? (i := 1) rfl, by rfl, by rfl⟩⟩
theorem top_4 : OpT 4 (some 20) (.call { callee := .value (.func 35), args := #[.tmp 16, .tmp 19], argTypes := #[9, 24] }) [0, 3] :=
 ⟨_, by rfl, by rfl, by rfl, by rfl, fun n hn => by
  simp at hn
  rcases hn with rfl | rfl
  · exact ⟨_, Array.mem_of_getElem? (i := 0) rfl, by rfl, by rfl⟩
  · exact ⟨_, Array.mem_of_getElem? (i := 1) rfl, by rfl, by rfl⟩⟩
theorem top_5 : OpT 5 none (.store 26 (.tmp 2) (.tmp 20)) [4] :=
 ⟨_, by rfl, by rfl, by rfl, by rfl, fun n hn => by
  simp at hn
  subst hn
  exact ⟨_, Array.mem_of_getElem? (i := 0) rfl, by rfl, by rfl⟩⟩
theorem top_6 : OpT 6 none (.store 4 (.tmp 3) (.const (.bool true))) [5] :=
 ⟨_, by rfl, by rfl, by rfl, by rfl, fun n hn => by
  simp at hn
  subst hn
  exact ⟨_, Array.mem_of_getElem? (i := 0) rfl, by rfl, by rfl⟩⟩
structure Stage (G : Prop) (w : World) (cb ob n1 : Nat) (cm : Cmd) (sv dv : Value) (C : Array Value) (q : Bool) (W : World) : Prop where
 below : Below w.heap.size w W
 cmd : CmdV W cm (.agg (cmdA cm sv dv))
 ns : NewS n1 sv
 nd : NewS n1 dv
 cbk : W.heap[cb]? = some (.cells C 26 (0, 0))
 good : G
 obk : W.heap[ob]? = some (.cells #[.bool q] 4 (0, 0))
def zeroC : Array Value := #[.string ⟨#[]⟩, .int .i64 0, .string ⟨#[]⟩, .slice none 0 0, .int .i64 0, .int .i64 0, .bool false, .int .u8 0, .slice none 0 0]
structure TI (G : Prop) (T : Array Value) (D : List Deferred) (W0 w : World) (cb ob n1 : Nat) (cm : Cmd) (v16 v17 v18 v19 : Value) (m : Nat → Bool) (a : Act) (W : World) : Prop where
 defers : a.defers = D
 size : a.tmps.size = 21
 low : ∀ j, j < 16 → a.tmps[j]? = T[j]?
 t16 : m 0 = true → a.tmps[16]? = some v16
 t17 : m 1 = true → a.tmps[17]? = some v17
 t18 : m 2 = true → a.tmps[18]? = some v18
 t19 : m 3 = true → a.tmps[19]? = some v19
 up : m 4 = true → m 0 = true
 w0 : m 4 = false → W = W0 ∧ m 5 = false ∧ m 6 = false
 w1 : m 4 = true → ∃ sv dv, a.tmps[20]? = some (.agg (cmdA cm sv dv)) ∧ (m 5 = false → m 6 = false) ∧ Stage G w cb ob n1 cm sv dv (if m 5 = true then cmdA cm sv dv else zeroC) (m 6) W
abbrev TIL (G : Prop) (T : Array Value) (D : List Deferred) (W0 w : World) (cb ob n1 : Nat) (cm : Cmd) (v16 v17 v18 v19 : Value) (l : Array Bool) : Act → World → Prop := TI G T D W0 w cb ob n1 cm v16 v17 v18 v19 (fun i => l.getD i false)
section
variable {G : Prop} {T : Array Value} {D : List Deferred} {W0 w : World} {cb ob n1 : Nat} {cm : Cmd} {v16 v17 v18 v19 : Value} {listed : Array Bool} {a : Act} {W : World} {Q : Exit → Act → World → Prop}
theorem ti_read {i d : Nat} {v : Value} (hs : listed.size = 7) (hI : TIL G T D W0 w cb ob n1 cm v16 v17 v18 v19 listed a W) (hi : i < 4) (hd : d = 16 + i) (hv : v = if i = 0 then v16 else if i = 1 then v17 else if i = 2 then v18 else v19) :
 TIL G T D W0 w cb ob n1 cm v16 v17 v18 v19 (listed.setIfInBounds i true) (a.put (some d) v) W := by
 have hm : ∀ j, (listed.setIfInBounds i true).getD j false = if j = i then true else listed.getD j false := fun j => getD_set (by omega)
 have hz := hI.size
 have hp : ∀ j, (a.put (some d) v).tmps[j]? = if j = d then some v else a.tmps[j]? := fun j => tm_put _ _ _ _ (by omega)
 have key : ∀ j u, (listed.getD j false = true → a.tmps[16 + j]? = some u) → (j = i → v = u) → ((listed.setIfInBounds i true).getD j false = true → (a.put (some d) v).tmps[16 + j]? = some u) := by
  intro j u h1 h2 h3
  rw [hp]
  by_cases e : j = i
  · rw [if_pos (by omega), h2 e]
  · rw [if_neg (by omega)]
    rw [hm, if_neg e] at h3
    exact h1 h3
 refine ⟨hI.defers, by simpa [Act.put] using hz, fun j hj => by rw [hp, if_neg (by omega)]; exact hI.low j hj, ?_, ?_, ?_, ?_, ?_, ?_, ?_⟩
 · exact key 0 v16 hI.t16 (fun e => by subst e; simpa using hv)
 · exact key 1 v17 hI.t17 (fun e => by subst e; simpa using hv)
 · exact key 2 v18 hI.t18 (fun e => by subst e; simpa using hv)
 · exact key 3 v19 hI.t19 (fun e => by subst e; simpa using hv)
 · intro h
   simp only [hm] at h ⊢
   rw [if_neg (by omega)] at h
   by_cases e : 0 = i
   · rw [if_pos e]
   · rw [if_neg e]; exact hI.up h
 · intro h
   simp only [hm] at h ⊢
   rw [if_neg (by omega)] at h
   rw [if_neg (by omega), if_neg (by omega)]
   exact hI.w0 h
 · intro h
   simp only [hm] at h ⊢
   rw [if_neg (by omega)] at h
   rw [if_neg (show ¬ 5 = i by omega), if_neg (show ¬ 6 = i by omega)]
   obtain ⟨sv, dv, h1, h2, h3⟩ := hI.w1 h
   exact ⟨sv, dv, by rw [hp, if_neg (by omega)]; exact h1, h2, h3⟩
theorem ti_call {W' : World} {sv dv : Value} (hs : listed.size = 7) (hI : TIL G T D W0 w cb ob n1 cm v16 v17 v18 v19 listed a W) (hl : listed.getD 4 true = false) (h0 : listed.getD 0 false = true) (hS : Stage G w cb ob n1 cm sv dv zeroC false W') :
 TIL G T D W0 w cb ob n1 cm v16 v17 v18 v19 (listed.setIfInBounds 4 true) (a.put (some 20) (.agg (cmdA cm sv dv))) W' := by
 have hm : ∀ j, (listed.setIfInBounds 4 true).getD j false = if j = 4 then true else listed.getD j false := fun j => getD_set (by omega)
 have hz := hI.size
 have hp : ∀ j, (a.put (some 20) (.agg (cmdA cm sv dv))).tmps[j]? = if j = 20 then some (.agg (cmdA cm sv dv)) else a.tmps[j]? := fun j => tm_put _ _ _ _ (by omega)
 obtain ⟨_, h5, h6⟩ := hI.w0 (getD_tf (by omega) hl)
 refine ⟨hI.defers, by simpa [Act.put] using hz, fun j hj => by rw [hp, if_neg (by omega)]; exact hI.low j hj, ?_, ?_, ?_, ?_, ?_, ?_, ?_⟩
 · intro h; simp only [hm] at h; rw [if_neg (by omega)] at h; rw [hp, if_neg (by omega)]; exact hI.t16 h
 · intro h; simp only [hm] at h; rw [if_neg (by omega)] at h; rw [hp, if_neg (by omega)]; exact hI.t17 h
 · intro h; simp only [hm] at h; rw [if_neg (by omega)] at h; rw [hp, if_neg (by omega)]; exact hI.t18 h
 · intro h; simp only [hm] at h; rw [if_neg (by omega)] at h; rw [hp, if_neg (by omega)]; exact hI.t19 h
 · intro _; simp only [hm]; rw [if_neg (by omega)]; exact h0
 · intro h; simp only [hm] at h; simp at h
 · intro _
   simp only [hm]
   rw [if_neg (show ¬ 5 = 4 by omega), if_neg (show ¬ 6 = 4 by omega), h5, h6]
   exact ⟨sv, dv, by rw [hp, if_pos rfl], fun _ => rfl, hS⟩
theorem ti_store {i : Nat} {W' : World} (hs : listed.size = 7) (hI : TIL G T D W0 w cb ob n1 cm v16 v17 v18 v19 listed a W) (hi : i = 5 ∨ i = 6) (h4 : listed.getD 4 false = true) (h65 : i = 6 → listed.getD 5 false = true)
 (hS : ∀ sv dv, a.tmps[20]? = some (.agg (cmdA cm sv dv)) → Stage G w cb ob n1 cm sv dv (if listed.getD 5 false = true then cmdA cm sv dv else zeroC) (listed.getD 6 false) W → Stage G w cb ob n1 cm sv dv (if i = 5 ∨ listed.getD 5 false = true then cmdA cm sv dv else zeroC) (if i = 6 then true else listed.getD 6 false) W') :
 TIL G T D W0 w cb ob n1 cm v16 v17 v18 v19 (listed.setIfInBounds i true) a W' := by
 have hm : ∀ j, (listed.setIfInBounds i true).getD j false = if j = i then true else listed.getD j false := fun j => getD_set (by omega)
 refine ⟨hI.defers, hI.size, hI.low, ?_, ?_, ?_, ?_, ?_, ?_, ?_⟩
 · intro h; simp only [hm] at h; rw [if_neg (by omega)] at h; exact hI.t16 h
 · intro h; simp only [hm] at h; rw [if_neg (by omega)] at h; exact hI.t17 h
 · intro h; simp only [hm] at h; rw [if_neg (by omega)] at h; exact hI.t18 h
 · intro h; simp only [hm] at h; rw [if_neg (by omega)] at h; exact hI.t19 h
 · intro _; simp only [hm]; rw [if_neg (by omega)]; exact hI.up h4
 · intro h; simp only [hm] at h; rw [if_neg (by omega), h4] at h; cases h
 · intro _
   simp only [hm]
   obtain ⟨sv, dv, h1, h2, h3⟩ := hI.w1 h4
   have h := hS sv dv h1 h3
   refine ⟨sv, dv, h1, ?_, ?_⟩
   · intro h5
     rcases hi with rfl | rfl
     · rw [if_pos rfl] at h5; cases h5
     · rw [if_neg (by omega), h65 rfl] at h5; cases h5
   · rcases hi with rfl | rfl
     · rw [if_pos rfl, if_neg (show ¬ 6 = 5 by omega)]
       rw [if_pos (.inl rfl), if_neg (by omega)] at h
       exact h
     · rw [if_neg (show ¬ 5 = 6 by omega), if_pos (show (6 : Nat) = 6 from rfl)]
       rw [if_pos (show (6 : Nat) = 6 from rfl)] at h
       rw [h65 rfl] at h ⊢
       simpa using h
theorem stC_cmd {W : World} {cb : Nat} {cm : Cmd} {sv dv : Value} {T : TypeId} (h : W.heap[cb]? = some (.cells zeroC T (0, 0))) : ∃ W', W'.heap[cb]? = some (.cells (cmdA cm sv dv) T (0, 0)) ∧ W.grownBy W' (some cb) ∧
 W' = stC W cb (.string ⟨cm.tag.toArray⟩) (.int .i64 (cm.kind : Int)) (.string ⟨cm.mbox.toArray⟩) sv (.int .i64 (cm.items : Int)) (.int .i64 (cm.mode : Int)) (.bool cm.silent) (.int .u8 (cm.flags : Int)) dv :=
 ⟨_, stC_block h _ _ _ _ _ _ _ _ _, stC_grown _ _ _ _ _ _ _ _ _ _ _, rfl⟩
theorem ti_step {tb : Nat} {s : ByteArray} {x : Value} (hT4 : T[4]? = some (.pointer (some ⟨tb, 0, none⟩))) (hT0 : T[0]? = some x) (hT5 : T[5]? = some v18) (hT2 : T[2]? = some (.pointer (some ⟨cb, 0, none⟩))) (hT3 : T[3]? = some (.pointer (some ⟨ob, 0, none⟩)))
 (hv16 : v16 = .string s) (hv17 : v17 = x) (hload : W0.cell? ⟨tb, 0, none⟩ = some (.string s)) (hsl : ∀ W, (Instr.slice 24 x (some v18) none none).run Tryz.prog W = .ok v19 W)
 (hne : cb ≠ ob) (hc : w.heap.size ≤ cb) (ho : w.heap.size ≤ ob) (hc1 : cb < n1) (ho1 : ob < n1)
 (hcall : Calls Tryz.prog 35 #[v16, v19] W0 fun e w' => (∃ sv dv, e = .returned (.agg (cmdA cm sv dv)) ∧ Stage G w cb ob n1 cm sv dv zeroC false w') ∨ (e = .panicked syn ∧ ∀ a : Act, a.defers = D → (∀ j, j < 16 → a.tmps[j]? = T[j]?) → Q (.panic syn) a w'))
 (listed : Array Bool) (a : Act) (W : World) (i : Nat) (hs : listed.size = topOps.size) (hI : TIL G T D W0 w cb ob n1 cm v16 v17 v18 v19 listed a W) (hi : i ∈ Region.ready .any topOps listed) :
 wpOp Tryz.prog topOps Q i (fun a' w' => TIL G T D W0 w cb ob n1 cm v16 v17 v18 v19 (listed.setIfInBounds i true) a' w') a W := by
 rw [top_size] at hs
 obtain ⟨hl, o, hoi, hafter⟩ := ready_of hi
 have hi7 : i < 7 := by have := (Array.getElem?_eq_some_iff.1 hoi).1; rw [top_size] at this; exact this
 have low := hI.low
 have wait : ∀ {dst op ws}, OpT i dst op ws → o.guard = none ∧ o.dst = dst ∧ o.op = op ∧ ∀ n ∈ ws, listed.getD n false = true := by
  rintro dst op ws ⟨o', ho', hg, hd, hop, hw⟩
  obtain rfl : o' = o := Option.some.inj (ho'.symm.trans hoi)
  refine ⟨hg, hd, hop, fun n hn => ?_⟩
  obtain ⟨e, he, hb, hen⟩ := hw n hn
  have := hafter e he hb
  rwa [hen] at this
 have key : i = 0 ∨ i = 1 ∨ i = 2 ∨ i = 3 ∨ i = 4 ∨ i = 5 ∨ i = 6 := by omega
 rcases key with rfl | rfl | rfl | rfl | rfl | rfl | rfl
 · obtain ⟨hg, hd, hop, _⟩ := wait top_0
   have h4 : listed.getD 4 false = false := by
    cases h : listed.getD 4 false with
    | false => rfl
    | true =>
      have := hI.up h
      rw [getD_tf (by omega) hl] at this
      cases this
   obtain ⟨rfl, _⟩ := hI.w0 h4
   refine wpOp_of hoi hg ?_
   have t4 := (low 4 (by omega)).trans hT4
   have e1 : (execOp a.eval o).run Tryz.prog W = .ok (.value (.string s)) W := by
    simp [execOp, hop, go_sem, t4, hload]
   unfold Oper.wp
   rw [e1, Oper.upon_value, hd]
   exact ti_read hs hI (by omega) rfl (by simp [hv16])
 · obtain ⟨hg, hd, hop, _⟩ := wait top_1
   refine wpOp_of hoi hg ?_
   have t0 := (low 0 (by omega)).trans hT0
   have e1 : (execOp a.eval o).run Tryz.prog W = .ok (.value x) W := by
    simp [execOp, hop, go_sem, t0]
   unfold Oper.wp
   rw [e1, Oper.upon_value, hd]
   exact ti_read hs hI (by omega) rfl (by simp [hv17])
 · obtain ⟨hg, hd, hop, _⟩ := wait top_2
   refine wpOp_of hoi hg ?_
   have t5 := (low 5 (by omega)).trans hT5
   have e1 : (execOp a.eval o).run Tryz.prog W = .ok (.value v18) W := by
    simp [execOp, hop, go_sem, t5]
   unfold Oper.wp
   rw [e1, Oper.upon_value, hd]
   exact ti_read hs hI (by omega) rfl (by simp)
 · obtain ⟨hg, hd, hop, hw⟩ := wait top_3
   refine wpOp_of hoi hg ?_
   have t17 := hI.t17 (hw 1 (by simp))
   have t18 := hI.t18 (hw 2 (by simp))
   rw [hv17] at t17
   have e1 : (execOp a.eval o).run Tryz.prog W = .ok (.value v19) W := by
    simp [execOp, hop, go_sem, t17, t18, hsl]
   unfold Oper.wp
   rw [e1, Oper.upon_value, hd]
   exact ti_read hs hI (by omega) rfl (by simp)
 · obtain ⟨hg, hd, hop, hw⟩ := wait top_4
   refine wpOp_of hoi hg ?_
   have t16 := hI.t16 (hw 0 (by simp))
   have t19 := hI.t19 (hw 3 (by simp))
   obtain ⟨rfl, _⟩ := hI.w0 (getD_tf (by omega) hl)
   have e1 : (execOp a.eval o).run Tryz.prog W = .ok (.enter 35 #[v16, v19]) W := by
    simp [execOp, hop, go_sem, t16, t19]
   unfold Oper.wp
   rw [e1, Oper.upon_enter, hd]
   refine hcall.mono ?_
   rintro e w' (⟨sv, dv, rfl, hS⟩ | ⟨rfl, hp⟩)
   · exact ti_call hs hI hl (hw 0 (by simp)) hS
   · exact hp a hI.defers low
 · obtain ⟨hg, hd, hop, hw⟩ := wait top_5
   refine wpOp_of hoi hg ?_
   have h4 := hw 4 (by simp)
   obtain ⟨sv, dv, t20, h56, hS⟩ := hI.w1 h4
   have h5 := getD_tf (by omega) hl
   have h6 := h56 h5
   rw [h5, if_neg (by decide), h6] at hS
   have t2 := (low 2 (by omega)).trans hT2
   obtain ⟨sv', dv', he, ⟨A1, k1, hsv, _⟩, A2, k2, hdv, _⟩ := hS.cmd
   have he' : cmdA cm sv dv = cmdA cm sv' dv' := by injection he
   have q1 : sv = sv' := by
    have := congrArg (fun a => a[3]?) he'
    simpa [cmdA] using this
   have q2 : dv = dv' := by
    have := congrArg (fun a => a[8]?) he'
    simpa [cmdA] using this
   subst q1 q2
   subst hsv hdv
   have hz := hS.cbk
   have hzz : W.heap[cb]? = some (.cells #[.string ⟨#[]⟩, .int .i64 0, .string ⟨#[]⟩, .slice none 0 0, .int .i64 0, .int .i64 0, .bool false, .int .u8 0, .slice none 0 0] 26 (0, 0)) := hz
   have d0 := cell_of_row _ _ 0 _ _ _ hzz
   have d1 := cell_of_row _ _ 1 _ _ _ hzz
   have d2 := cell_of_row _ _ 2 _ _ _ hzz
   have d3 := cell_of_row _ _ 3 _ _ _ hzz
   have d4 := cell_of_row _ _ 4 _ _ _ hzz
   have d5 := cell_of_row _ _ 5 _ _ _ hzz
   have d6 := cell_of_row _ _ 6 _ _ _ hzz
   have d7 := cell_of_row _ _ 7 _ _ _ hzz
   have d8 := cell_of_row _ _ 8 _ _ _ hzz
   have fc := fun j => Joins.unfrozen_of_block hzz j
   obtain ⟨W', hW1, hW2, hW3⟩ := stC_cmd (cm := cm) (sv := .slice A1 cm.set.length k1) (dv := .slice A2 cm.data.length k2) hz
   have e1 : (execOp a.eval o).run Tryz.prog W = .ok .skip W' := by
    rw [hW3]
    simp [execOp, hop, go_sem, t2, t20, cmdA, d0, d1, d2, d3, d4, d5, d6, d7, d8, fc]
    rfl
   unfold Oper.wp
   rw [e1, Oper.upon_skip, hd]
   refine ti_store hs hI (.inl rfl) h4 (fun h => by omega) (fun sv2 dv2 ht2 hS2 => ?_)
   have heq := ht2.symm.trans t20
   have he2 : cmdA cm sv2 dv2 = cmdA cm (.slice A1 cm.set.length k1) (.slice A2 cm.data.length k2) := by injection heq with heq; injection heq
   have r1 : sv2 = .slice A1 cm.set.length k1 := by
    have := congrArg (fun a => a[3]?) he2
    simpa [cmdA] using this
   have r2 : dv2 = .slice A2 cm.data.length k2 := by
    have := congrArg (fun a => a[8]?) he2
    simpa [cmdA] using this
   rw [r1, r2, if_pos (.inl rfl), if_neg (by decide), h6]
   exact ⟨hS.below.grown hW2 hS.below.size (fun j hj => by cases hj; exact hc), hS.cmd.past hS.ns hS.nd hc1 hW2, hS.ns, hS.nd, hW1, hS.good, (hW2.block ob (Array.getElem?_eq_some_iff.1 hS.obk).1 (fun e => hne (by injection e with e; exact e.symm))).trans hS.obk⟩
 · obtain ⟨hg, hd, hop, hw⟩ := wait top_6
   refine wpOp_of hoi hg ?_
   have h5 := hw 5 (by simp)
   have h4 : listed.getD 4 false = true := by
    cases h : listed.getD 4 false with
    | true => rfl
    | false =>
      have := (hI.w0 h).2.1
      rw [h5] at this
      cases this
   obtain ⟨sv, dv, t20, h56, hS⟩ := hI.w1 h4
   have h6 := getD_tf (by omega) hl
   rw [h5, if_pos rfl, h6] at hS
   have t3 := (low 3 (by omega)).trans hT3
   have o0 := cell_of_row _ _ 0 _ _ _ hS.obk
   have fo := Joins.unfrozen_of_block hS.obk 0
   have e1 : (execOp a.eval o).run Tryz.prog W = .ok .skip (W.setCell ⟨ob, 0, none⟩ (.bool true)) := by
    simp [execOp, hop, go_sem, t3, o0, fo]
   have hg2 := ZG W ob 0 (.bool true)
   unfold Oper.wp
   rw [e1, Oper.upon_skip, hd]
   refine ti_store hs hI (.inr rfl) h4 (fun _ => h5) (fun sv2 dv2 ht2 hS2 => ?_)
   rw [h5, if_pos rfl, h6] at hS2
   rw [if_pos (.inr h5), if_pos rfl]
   exact ⟨hS2.below.grown hg2 hS2.below.size (fun j hj => by cases hj; exact ho), hS2.cmd.past hS2.ns hS2.nd ho1 hg2, hS2.ns, hS2.nd, (hg2.block cb (Array.getElem?_eq_some_iff.1 hS2.cbk).1 (fun e => hne (by injection e))).trans hS2.cbk, hS2.good, by rw [Joins.block_setCell hS2.obk]; rfl⟩
theorem top_region {tm : Array Value} {tb : Nat} {s : ByteArray} {x : Value} (hts : tm.size = 21) (hT4 : tm[4]? = some (.pointer (some ⟨tb, 0, none⟩))) (hT0 : tm[0]? = some x) (hT5 : tm[5]? = some v18) (hT2 : tm[2]? = some (.pointer (some ⟨cb, 0, none⟩))) (hT3 : tm[3]? = some (.pointer (some ⟨ob, 0, none⟩)))
 (hload : W0.cell? ⟨tb, 0, none⟩ = some (.string s)) (hsl : ∀ W, (Instr.slice 24 x (some v18) none none).run Tryz.prog W = .ok v19 W)
 (hne : cb ≠ ob) (hc : w.heap.size ≤ cb) (ho : w.heap.size ≤ ob) (hc1 : cb < n1) (ho1 : ob < n1)
 (hcall : Calls Tryz.prog 35 #[.string s, v19] W0 fun e w' => (∃ sv dv, e = .returned (.agg (cmdA cm sv dv)) ∧ Stage G w cb ob n1 cm sv dv zeroC false w') ∨ (e = .panicked syn ∧ ∀ a : Act, a.defers = D → (∀ j, j < 16 → a.tmps[j]? = tm[j]?) → Q (.panic syn) a w'))
 (hok : ∀ a W sv dv, a.defers = D → (∀ j, j < 16 → a.tmps[j]? = tm[j]?) → Stage G w cb ob n1 cm sv dv (cmdA cm sv dv) true W → Q .normal a W) :
 wpAny Tryz.prog .any topOps Q topOps.size (Array.replicate topOps.size false) { tmps := tm, defers := D } W0 := by
 refine wpAny_inv (TIL G tm D W0 w cb ob n1 cm (.string s) x v18 v19) (ti_step hT4 hT0 hT5 hT2 hT3 rfl rfl hload hsl hne hc ho hc1 ho1 hcall) ?done topOps.size _ _ _ (by rw [Array.size_replicate]) ?cnt ?start
 case cnt => unfold cntF; simp
 case start =>
  refine ⟨rfl, hts, fun j _ => rfl, ?_, ?_, ?_, ?_, ?_, ?_, ?_⟩
  · intro h; rw [ZU] at h; cases h
  · intro h; rw [ZU] at h; cases h
  · intro h; rw [ZU] at h; cases h
  · intro h; rw [ZU] at h; cases h
  · intro h; rw [ZU] at h; cases h
  · intro _; exact ⟨rfl, ZU _ _, ZU _ _⟩
  · intro h; rw [ZU] at h; cases h
 case done =>
  intro listed a W hs hI hr
  have hall : ∀ i, i < 7 → listed.getD i false = true := fun i hi => all_listed hs hr top_before 7 i hi (by rw [top_size]; exact hi)
  obtain ⟨sv, dv, _, _, hS⟩ := hI.w1 (hall 4 (by omega))
  rw [hall 5 (by omega), if_pos rfl, hall 6 (by omega)] at hS
  exact hok a W sv dv hI.defers hI.low hS
end
theorem command_bad (B c : Nat) (A : Option Addr) (l t : List UInt8) (hl : l.length ≤ 9000) (w : World) (henv : Env w) (hA : ByAt B w A c l) (hno : tagO l = some t) (hbad : ∀ ts, IsToks (l.drop (t.length + 1)) ts (-1) → bodyO t ts = none) :
 Calls Tryz.prog 22 #[.slice A l.length c] w (CPost l w) := by
 have hmf : ∀ (fn : Fn) (first cap : Array Value) (w : World), (Instr.makeFunc fn first cap).run Tryz.prog w = .ok (.func fn first cap) w := fun _ _ _ _ => rfl
 have hmx : Tryz.prog.follows .mixedOrders = true := by kernel_rfl
 have NT := Hi (fun w1 => need_t w1)
 have B1 := YB w (.cells #[.string ⟨#[]⟩, .int .i64 0, .string ⟨#[]⟩, .slice none 0 0, .int .i64 0, .int .i64 0, .bool false, .int .u8 0, .slice none 0 0] 26)
 have B2 := YA B1 (YB _ (.cells #[.bool false] 4))
 have TG := tagTok_any B A c l l.length rfl (by omega) _ (hA.grow B2)
 obtain ⟨n, hn⟩ : ∃ n, t.length + 1 = n := ⟨_, rfl⟩
 have hnl : n ≤ l.length := by
  unfold tagO at hno
  split at hno
  · rename_i h
    simp at hno
    have := (List.getElem?_eq_some_iff.1 h.2).1
    rw [hno] at this
    omega
  · cases hno
 rw [show tagV l = .tuple #[.string ⟨t.toArray⟩, .int .i64 (n : Int), .bool true] by unfold tagV; rw [hno, ← hn]; rfl] at TG
 have TG := Hi TG
 have hsl := fun W => slice_l A l.length c n hnl W
 have PN := fun W (hB : Below w.heap.size w W) => parse7_no B (c - n) (offA A c n) t (l.drop n) (by rw [List.length_drop]; omega) W (henv.below hB) ((hA.grow hB).drop hnl) (by rw [← hn]; exact hbad)
 simp only [List.length_drop] at PN
 have PN := Hi PN
 have HB2 := Hi B2
 have hr1 := YD w (.cells #[.string ⟨#[]⟩, .int .i64 0, .string ⟨#[]⟩, .slice none 0 0, .int .i64 0, .int .i64 0, .bool false, .int .u8 0, .slice none 0 0] 26)
 have hr2 := ((YB (w.alloc (.cells #[.string ⟨#[]⟩, .int .i64 0, .string ⟨#[]⟩, .slice none 0 0, .int .i64 0, .int .i64 0, .bool false, .int .u8 0, .slice none 0 0] 26)) (.cells #[.bool false] 4)).block w.heap.size (by simp)).trans hr1
 have hr3 := YD (w.alloc (.cells #[.string ⟨#[]⟩, .int .i64 0, .string ⟨#[]⟩, .slice none 0 0, .int .i64 0, .int .i64 0, .bool false, .int .u8 0, .slice none 0 0] 26)) (.cells #[.bool false] 4)
 rw [World.size_alloc] at hr3
 have HR2 := Hi hr2
 have HR3 := Hi hr3
 have HNO := Hi hno
 have HN := Hi hn
 have HSL := Hi hsl
 clear hA B1 B2 hr1 hr2 hr3 hno hl hbad hn henv hnl hsl
 go_enter_defers Tryz.func22, Tryz.ntmps22
 go_wp2_with fail
 refine TG.out.mono ?_
 rintro e w1 ⟨rfl, hb⟩
 have hs1 := hb.size
 rw [World.size_alloc, World.size_alloc] at hs1
 have HR2' := Hi ((hb.block w.heap.size (by simp; omega)).trans HR2.out)
 have HR3' := Hi ((hb.block (w.heap.size + 1) (by simp)).trans HR3.out)
 have HB3 := Hi (YA HB2.out hb)
 clear hb TG HR2 HR3 HB2
 go_wp2_with fail
 refine (NT.out _).mono ?_
 rintro e w2 ⟨rfl, rfl⟩
 go_wp2_with fail
 rename_i K hK
 refine wp_region_any (ops := topOps) hmx ?_
 change wpAny _ _ _ _ _ _ _ (World.drew _)
 have hbt := (YB w1 (.cells #[.string ⟨t.toArray⟩] 9))
 have HBT : Below w.heap.size w (w1.alloc (.cells #[.string ⟨t.toArray⟩] 9)).drew := ZJ (HB3.out.trans (hbt.mono (by omega)))
 have hcb : (w1.alloc (.cells #[.string ⟨t.toArray⟩] 9)).drew.heap[w.heap.size]? = some (.cells zeroC 26 (0, 0)) := ((ZJ hbt).block w.heap.size (by omega)).trans HR2'.out
 have hob : (w1.alloc (.cells #[.string ⟨t.toArray⟩] 9)).drew.heap[w.heap.size + 1]? = some (.cells #[.bool false] 4 (0, 0)) := ((ZJ hbt).block (w.heap.size + 1) (by omega)).trans HR3'.out
 have htb : (w1.alloc (.cells #[.string ⟨t.toArray⟩] 9)).drew.cell? ⟨w1.heap.size, 0, none⟩ = some (.string ⟨t.toArray⟩) := by simp
 have hsz : (w1.alloc (.cells #[.string ⟨t.toArray⟩] 9)).drew.heap.size = w1.heap.size + 1 := World.size_alloc _ _
 have hcl := PN.out _ HBT
 generalize (w1.alloc (.cells #[.string ⟨t.toArray⟩] 9)).drew = W0 at *
 refine top_region (G := False) (cm := cmd0 []) (n1 := w.heap.size + 2) (w := w) rfl rfl rfl rfl rfl rfl htb HSL.out (by omega) (Nat.le_refl _) (by omega) (by omega) (by omega) (hcl.mono ?_) (fun _ _ _ _ _ _ hS => hS.good.elim)
 rintro e w' ⟨⟨ts, x, h1, h2⟩, rfl, hb⟩
 refine .inr ⟨rfl, fun a hd hlow => ?_⟩
 have h2' := hlow 2 (by omega)
 have h3' := hlow 3 (by omega)
 obtain ⟨tm, df⟩ := a
 simp only at hd h2' h3'
 subst hd
 exact door_panic l t w1.heap.size w.heap.size (w.heap.size + 1) _ _ _ _ _ _ _ _ _ _ w w' tm (by omega) (Nat.le_refl _) (by omega) (HBT.trans (hb.mono (by omega))) ((hb.cell (p := ⟨w1.heap.size, 0, none⟩) (show w1.heap.size < W0.heap.size by omega)).trans htb) ((hb.block w.heap.size (by omega)).trans hcb) ((hb.block (w.heap.size + 1) (by omega)).trans hob) h2' h3' (.bad HNO.out (by rw [HN.out]; exact h1.out) h2.out)
theorem command_ok (B c : Nat) (A : Option Addr) (l t : List UInt8) (hl : l.length ≤ 9000) (w : World) (henv : Env w) (hA : ByAt B w A c l) (hno : tagO l = some t) {ts : List Tok} {cm : Cmd} (hts : IsToks (l.drop (t.length + 1)) ts (-1)) (hcm : bodyO t ts = some cm) :
 Calls Tryz.prog 22 #[.slice A l.length c] w (CPost l w) := by
 have hmf : ∀ (fn : Fn) (first cap : Array Value) (w : World), (Instr.makeFunc fn first cap).run Tryz.prog w = .ok (.func fn first cap) w := fun _ _ _ _ => rfl
 have hmx : Tryz.prog.follows .mixedOrders = true := by kernel_rfl
 have NT := Hi (fun w1 => need_t w1)
 have B1 := YB w (.cells #[.string ⟨#[]⟩, .int .i64 0, .string ⟨#[]⟩, .slice none 0 0, .int .i64 0, .int .i64 0, .bool false, .int .u8 0, .slice none 0 0] 26)
 have B2 := YA B1 (YB _ (.cells #[.bool false] 4))
 have TG := tagTok_any B A c l l.length rfl (by omega) _ (hA.grow B2)
 obtain ⟨n, hn⟩ : ∃ n, t.length + 1 = n := ⟨_, rfl⟩
 have hnl : n ≤ l.length := by
  unfold tagO at hno
  split at hno
  · rename_i h
    simp at hno
    have := (List.getElem?_eq_some_iff.1 h.2).1
    rw [hno] at this
    omega
  · cases hno
 rw [show tagV l = .tuple #[.string ⟨t.toArray⟩, .int .i64 (n : Int), .bool true] by unfold tagV; rw [hno, ← hn]; rfl] at TG
 have TG := Hi TG
 have hsl := fun W => slice_l A l.length c n hnl W
 have PN := fun W (hB : Below w.heap.size w W) => parse7_ok B (c - n) (offA A c n) t (l.drop n) (by rw [List.length_drop]; omega) W (henv.below hB) ((hA.grow hB).drop hnl) (by rw [← hn]; exact hts) hcm
 simp only [List.length_drop] at PN
 have PN := Hi PN
 have HB2 := Hi B2
 have hr1 := YD w (.cells #[.string ⟨#[]⟩, .int .i64 0, .string ⟨#[]⟩, .slice none 0 0, .int .i64 0, .int .i64 0, .bool false, .int .u8 0, .slice none 0 0] 26)
 have hr2 := ((YB (w.alloc (.cells #[.string ⟨#[]⟩, .int .i64 0, .string ⟨#[]⟩, .slice none 0 0, .int .i64 0, .int .i64 0, .bool false, .int .u8 0, .slice none 0 0] 26)) (.cells #[.bool false] 4)).block w.heap.size (by simp)).trans hr1
 have hr3 := YD (w.alloc (.cells #[.string ⟨#[]⟩, .int .i64 0, .string ⟨#[]⟩, .slice none 0 0, .int .i64 0, .int .i64 0, .bool false, .int .u8 0, .slice none 0 0] 26)) (.cells #[.bool false] 4)
 rw [World.size_alloc] at hr3
 have HR2 := Hi hr2
 have HR3 := Hi hr3
 have HNO := Hi hno
 have HN := Hi hn
 have HSL := Hi hsl
 have HC : Hid (IsCmd l cm true) := Hi (.good hno hts hcm)
 clear hA B1 B2 hr1 hr2 hr3 hno hl hn henv hnl hsl hts hcm
 go_enter_defers Tryz.func22, Tryz.ntmps22
 go_wp2_with fail
 refine TG.out.mono ?_
 rintro e w1 ⟨rfl, hb⟩
 have hs1 := hb.size
 rw [World.size_alloc, World.size_alloc] at hs1
 have HR2' := Hi ((hb.block w.heap.size (by simp; omega)).trans HR2.out)
 have HR3' := Hi ((hb.block (w.heap.size + 1) (by simp)).trans HR3.out)
 have HB3 := Hi (YA HB2.out hb)
 clear hb TG HR2 HR3 HB2
 go_wp2_with fail
 refine (NT.out _).mono ?_
 rintro e w2 ⟨rfl, rfl⟩
 go_wp2_with fail
 rename_i K hK
 refine wp_region_any (ops := topOps) hmx ?_
 change wpAny _ _ _ _ _ _ _ (World.drew _)
 have hbt := (YB w1 (.cells #[.string ⟨t.toArray⟩] 9))
 have HBT : Below w.heap.size w (w1.alloc (.cells #[.string ⟨t.toArray⟩] 9)).drew := ZJ (HB3.out.trans (hbt.mono (by omega)))
 have hcb : (w1.alloc (.cells #[.string ⟨t.toArray⟩] 9)).drew.heap[w.heap.size]? = some (.cells zeroC 26 (0, 0)) := ((ZJ hbt).block w.heap.size (by omega)).trans HR2'.out
 have hob : (w1.alloc (.cells #[.string ⟨t.toArray⟩] 9)).drew.heap[w.heap.size + 1]? = some (.cells #[.bool false] 4 (0, 0)) := ((ZJ hbt).block (w.heap.size + 1) (by omega)).trans HR3'.out
 have htb : (w1.alloc (.cells #[.string ⟨t.toArray⟩] 9)).drew.cell? ⟨w1.heap.size, 0, none⟩ = some (.string ⟨t.toArray⟩) := by simp
 have hsz : (w1.alloc (.cells #[.string ⟨t.toArray⟩] 9)).drew.heap.size = w1.heap.size + 1 := World.size_alloc _ _
 have hcl := PN.out _ HBT
 generalize (w1.alloc (.cells #[.string ⟨t.toArray⟩] 9)).drew = W0 at *
 refine top_region (G := True) (cm := cm) (n1 := w.heap.size + 2) (w := w) rfl rfl rfl rfl rfl rfl htb HSL.out (by omega) (Nat.le_refl _) (by omega) (by omega) (by omega) (hcl.mono ?_) ?_
 · rintro e w' ⟨sv, dv, rfl, hv, hn, hb⟩
   refine .inl ⟨sv, dv, rfl, HBT.trans (hb.mono (by omega)), hv.out, fun b off s n k e => ?_, fun b off s n k e => ?_, (hb.block w.heap.size (by omega)).trans hcb, trivial, (hb.block (w.heap.size + 1) (by omega)).trans hob⟩
   · have := hn.out.1 b off s n k e; omega
   · have := hn.out.2 b off s n k e; omega
 · intro a W sv dv hd hlow hS
   refine hK a W ?_
   have h2' := hlow 2 (by omega)
   have h3' := hlow 3 (by omega)
   obtain ⟨tm, df⟩ := a
   simp only at hd h2' h3'
   subst hd
   clear hlow hcl hsz htb hob hcb HBT hbt HB3 HR3' HR2' hK PN HSL NT
   go_wp2_with fail
   refine leaves_cons (f := 33) (args := #[.pointer (some ⟨w1.heap.size, 0, none⟩), .pointer (some ⟨w.heap.size, 0, none⟩), .pointer (some ⟨w.heap.size + 1, 0, none⟩)]) (by simp) (by simp [go_sem]) ?_
   refine (catch_idle _ _ _ W).mono ?_
   rintro e u' w2 ⟨rfl, rfl, rfl⟩
   have hcmd := hS.cmd
   have hns := hS.ns
   have hnd := hS.nd
   have hC := hS.cbk
   have hO := hS.obk
   have hB := hS.below
   clear hS
   have hC' : w2.heap[w.heap.size]? = some (.cells #[.string ⟨cm.tag.toArray⟩, .int .i64 (cm.kind : Int), .string ⟨cm.mbox.toArray⟩, sv, .int .i64 (cm.items : Int), .int .i64 (cm.mode : Int), .bool cm.silent, .int .u8 (cm.flags : Int), dv] 26 (0, 0)) := hC
   have q0 := cell_of_row _ _ 0 _ _ _ hC'
   have q1 := cell_of_row _ _ 1 _ _ _ hC'
   have q2 := cell_of_row _ _ 2 _ _ _ hC'
   have q3 := cell_of_row _ _ 3 _ _ _ hC'
   have q4 := cell_of_row _ _ 4 _ _ _ hC'
   have q5 := cell_of_row _ _ 5 _ _ _ hC'
   have q6 := cell_of_row _ _ 6 _ _ _ hC'
   have q7 := cell_of_row _ _ 7 _ _ _ hC'
   have q8 := cell_of_row _ _ 8 _ _ _ hC'
   have r0 := cell_of_row _ _ 0 _ _ _ hO
   refine ⟨.tuple #[.agg (cmdA cm sv dv), .bool true], by simp [results, Tryz.results22, go_sem, h2', h3', cmdA, q0, q1, q2, q3, q4, q5, q6, q7, q8, r0], cm, true, _, HC.out, rfl, ⟨hcmd, cm, sv, dv, rfl, hns.mono (by omega), hnd.mono (by omega)⟩, hB⟩
theorem command_any (B c : Nat) (A : Option Addr) (l : List UInt8) (hl : l.length ≤ 9000) (w : World) (henv : Env w) (hA : ByAt B w A c l) :
 Calls Tryz.prog 22 #[.slice A l.length c] w (CPost l w) := by
 cases ht : tagO l with
 | none => exact command_none B c A l hl w hA ht
 | some t =>
   by_cases h : ∃ ts cm, IsToks (l.drop (t.length + 1)) ts (-1) ∧ bodyO t ts = some cm
   · obtain ⟨ts, cm, h1, h2⟩ := h
     exact command_ok B c A l t hl w henv hA ht h1 h2
   · refine command_bad B c A l t hl w henv hA ht (fun ts h1 => ?_)
     cases h2 : bodyO t ts with
     | none => rfl
     | some cm => exact absurd ⟨ts, cm, h1, h2⟩ h
end Go.Proofs.YtpgfnlhfciacoaaGreatDoor
