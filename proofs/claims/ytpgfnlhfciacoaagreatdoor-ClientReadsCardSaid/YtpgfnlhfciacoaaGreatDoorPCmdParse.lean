import Derived.Test.YtpgfnlhfciacoaaGreatDoorPGr
import Derived.Test.YtpgfnlhfciacoaaGreatDoorPTokens
set_option maxRecDepth 100000
set_option maxHeartbeats 2000000
open Go.Lib renaming hid → Hi
namespace Go.Proofs.YtpgfnlhfciacoaaGreatDoor
open Go.RowKit Go.Maps Go.Shelf
def CmdV (w : World) (c : Cmd) (v : Value) : Prop :=
 ∃ sv dv, v = .agg (cmdA c sv dv) ∧ (∃ A k, sv = .slice A c.set.length k ∧ c.set.length ≤ k ∧ SlAt encR 2 w A c.set) ∧ (∃ A k, dv = .slice A c.data.length k ∧ c.data.length ≤ k ∧ SlAt encB 1 w A c.data)
theorem CmdV.below {w w' : World} {c : Cmd} {v : Value} (h : CmdV w c v) (hb : Below w.heap.size w w') : CmdV w' c v := by
 obtain ⟨sv, dv, rfl, ⟨A, k, h1, h2, h3⟩, A', k', h4, h5, h6⟩ := h
 exact ⟨sv, dv, rfl, ⟨A, k, h1, h2, h3.below hb⟩, A', k', h4, h5, h6.below hb⟩
theorem CmdV.zero (w : World) (t : List UInt8) : CmdV w (cmd0 t) (.agg #[.string ⟨t.toArray⟩, .int .i64 0, .string ⟨#[]⟩, .slice none 0 0, .int .i64 0, .int .i64 0, .bool false, .int .u8 0, .slice none 0 0]) :=
 ⟨.slice none 0 0, .slice none 0 0, rfl, ⟨none, 0, rfl, Nat.le_refl _, .inl rfl⟩, none, 0, rfl, Nat.le_refl _, .inl rfl⟩
def stC (W : World) (r : Nat) (a0 a1 a2 a3 a4 a5 a6 a7 a8 : Value) : World := (((((((((W.setCell ⟨r, 0, none⟩ a0).setCell ⟨r, 1, none⟩ a1).setCell ⟨r, 2, none⟩ a2).setCell ⟨r, 3, none⟩ a3).setCell ⟨r, 4, none⟩ a4).setCell ⟨r, 5, none⟩ a5).setCell ⟨r, 6, none⟩ a6).setCell ⟨r, 7, none⟩ a7).setCell ⟨r, 8, none⟩ a8)
theorem stC_block {W : World} {r : Nat} {c0 c1 c2 c3 c4 c5 c6 c7 c8 : Value} {T : TypeId} (h : W.heap[r]? = some (.cells #[c0, c1, c2, c3, c4, c5, c6, c7, c8] T (0, 0))) (a0 a1 a2 a3 a4 a5 a6 a7 a8 : Value) : (stC W r a0 a1 a2 a3 a4 a5 a6 a7 a8).heap[r]? = some (.cells #[a0, a1, a2, a3, a4, a5, a6, a7, a8] T (0, 0)) := by
 have h0 : (W.setCell ⟨r, 0, none⟩ a0).heap[r]? = some (.cells #[a0, c1, c2, c3, c4, c5, c6, c7, c8] T (0, 0)) := Joins.block_setCell (i := 0) h a0
 have h1 : ((W.setCell ⟨r, 0, none⟩ a0).setCell ⟨r, 1, none⟩ a1).heap[r]? = some (.cells #[a0, a1, c2, c3, c4, c5, c6, c7, c8] T (0, 0)) := Joins.block_setCell (i := 1) h0 a1
 have h2 : (((W.setCell ⟨r, 0, none⟩ a0).setCell ⟨r, 1, none⟩ a1).setCell ⟨r, 2, none⟩ a2).heap[r]? = some (.cells #[a0, a1, a2, c3, c4, c5, c6, c7, c8] T (0, 0)) := Joins.block_setCell (i := 2) h1 a2
 have h3 : ((((W.setCell ⟨r, 0, none⟩ a0).setCell ⟨r, 1, none⟩ a1).setCell ⟨r, 2, none⟩ a2).setCell ⟨r, 3, none⟩ a3).heap[r]? = some (.cells #[a0, a1, a2, a3, c4, c5, c6, c7, c8] T (0, 0)) := Joins.block_setCell (i := 3) h2 a3
 have h4 : (((((W.setCell ⟨r, 0, none⟩ a0).setCell ⟨r, 1, none⟩ a1).setCell ⟨r, 2, none⟩ a2).setCell ⟨r, 3, none⟩ a3).setCell ⟨r, 4, none⟩ a4).heap[r]? = some (.cells #[a0, a1, a2, a3, a4, c5, c6, c7, c8] T (0, 0)) := Joins.block_setCell (i := 4) h3 a4
 have h5 : ((((((W.setCell ⟨r, 0, none⟩ a0).setCell ⟨r, 1, none⟩ a1).setCell ⟨r, 2, none⟩ a2).setCell ⟨r, 3, none⟩ a3).setCell ⟨r, 4, none⟩ a4).setCell ⟨r, 5, none⟩ a5).heap[r]? = some (.cells #[a0, a1, a2, a3, a4, a5, c6, c7, c8] T (0, 0)) := Joins.block_setCell (i := 5) h4 a5
 have h6 : (((((((W.setCell ⟨r, 0, none⟩ a0).setCell ⟨r, 1, none⟩ a1).setCell ⟨r, 2, none⟩ a2).setCell ⟨r, 3, none⟩ a3).setCell ⟨r, 4, none⟩ a4).setCell ⟨r, 5, none⟩ a5).setCell ⟨r, 6, none⟩ a6).heap[r]? = some (.cells #[a0, a1, a2, a3, a4, a5, a6, c7, c8] T (0, 0)) := Joins.block_setCell (i := 6) h5 a6
 have h7 : ((((((((W.setCell ⟨r, 0, none⟩ a0).setCell ⟨r, 1, none⟩ a1).setCell ⟨r, 2, none⟩ a2).setCell ⟨r, 3, none⟩ a3).setCell ⟨r, 4, none⟩ a4).setCell ⟨r, 5, none⟩ a5).setCell ⟨r, 6, none⟩ a6).setCell ⟨r, 7, none⟩ a7).heap[r]? = some (.cells #[a0, a1, a2, a3, a4, a5, a6, a7, c8] T (0, 0)) := Joins.block_setCell (i := 7) h6 a7
 have h8 : (((((((((W.setCell ⟨r, 0, none⟩ a0).setCell ⟨r, 1, none⟩ a1).setCell ⟨r, 2, none⟩ a2).setCell ⟨r, 3, none⟩ a3).setCell ⟨r, 4, none⟩ a4).setCell ⟨r, 5, none⟩ a5).setCell ⟨r, 6, none⟩ a6).setCell ⟨r, 7, none⟩ a7).setCell ⟨r, 8, none⟩ a8).heap[r]? = some (.cells #[a0, a1, a2, a3, a4, a5, a6, a7, a8] T (0, 0)) := Joins.block_setCell (i := 8) h7 a8
 exact h8
theorem stC_grown (W : World) (r : Nat) (a0 a1 a2 a3 a4 a5 a6 a7 a8 : Value) : W.grownBy (stC W r a0 a1 a2 a3 a4 a5 a6 a7 a8) (some r) := (YH (YH (YH (YH (YH (YH (YH (YH (YH (World.grownBy.refl W (some r)) 0 a0) 1 a1) 2 a2) 3 a3) 4 a4) 5 a5) 6 a6) 7 a7) 8 a8)
theorem slAt_past {α : Type} {enc : α → List Value} {k : Nat} {w w' : World} {A : Option Addr} {l : List α} {r : Nat} (h : SlAt enc k w A l) (hg : w.grownBy w' (some r)) (hne : ∀ b off s, A = some ⟨b, off, s⟩ → b ≠ r) : SlAt enc k w' A l := by
 rcases h with h | ⟨b, off, rfl, hlt, hc⟩
 · exact .inl h
 · refine .inr ⟨b, off, rfl, Nat.lt_of_lt_of_le hlt hg.size, fun j x hj i u hi => ?_⟩
   have := hc j x hj i u hi
   unfold World.cell? at this ⊢
   rw [hg.block b hlt (fun e => hne b off none rfl (by injection e))]
   exact this
theorem cmdV_st {bs B n0 : Nat} {tv : Value} {ts : List Tok} {c : Cmd} {sv dv : Value} {W W' : World} (h : Ps bs B tv ts c sv dv W) (hlt : n0 < bs) (hg : W.grownBy W' (some n0)) : CmdV W' c (.agg (cmdA c sv dv)) := by
 obtain ⟨A1, k1, e1, l1, h1⟩ := h.sets.sl
 obtain ⟨A2, k2, e2, l2, h2⟩ := h.dats.sl
 have n1 := h.snew
 have n2 := h.dnew
 clear h
 subst e1
 subst e2
 exact ⟨_, _, rfl, ⟨A1, k1, rfl, l1, slAt_past h1 hg (fun b off s e => by have := n1 b off s _ _ (by rw [e]); omega)⟩, A2, k2, rfl, l2, slAt_past h2 hg (fun b off s e => by have := n2 b off s _ _ (by rw [e]); omega)⟩
def NewS (n0 : Nat) (v : Value) : Prop := ∀ b off s n k, v = .slice (some ⟨b, off, s⟩) n k → n0 ≤ b
theorem CmdV.past {W W' : World} {c : Cmd} {sv dv : Value} {r n0 : Nat} (h : CmdV W c (.agg (cmdA c sv dv))) (hs : NewS n0 sv) (hd : NewS n0 dv) (hr : r < n0) (hg : W.grownBy W' (some r)) : CmdV W' c (.agg (cmdA c sv dv)) := by
 obtain ⟨sv', dv', he, ⟨A, k, h1, h2, h3⟩, A', k', h4, h5, h6⟩ := h
 have he' : cmdA c sv dv = cmdA c sv' dv' := by injection he
 have e1 : sv = sv' := by
  have := congrArg (fun a => a[3]?) he'
  simpa [cmdA] using this
 have e2 : dv = dv' := by
  have := congrArg (fun a => a[8]?) he'
  simpa [cmdA] using this
 subst e1
 subst e2
 exact ⟨_, _, rfl, ⟨A, k, h1, h2, slAt_past h3 hg (fun b off s e => by have := hs b off s _ _ (by rw [h1, e]); omega)⟩, A', k', h4, h5, slAt_past h6 hg (fun b off s e => by have := hd b off s _ _ (by rw [h4, e]); omega)⟩
def PaPost (tag l : List UInt8) (w : World) (e : Ending) (w' : World) : Prop :=
 (∃ ts c sv dv, Hid (IsToks l ts (-1)) ∧ Hid (bodyO tag ts = some c) ∧ e = .returned (.agg (cmdA c sv dv)) ∧ Hid (CmdV w' c (.agg (cmdA c sv dv))) ∧ Hid (NewS w.heap.size sv ∧ NewS w.heap.size dv) ∧ Below w.heap.size w w') ∨
 (∃ ts x, Hid (IsToks l ts x) ∧ Hid (x ≠ -1 ∨ bodyO tag ts = none) ∧ e = .panicked syn ∧ Below w.heap.size w w')
theorem restC_fin {k : Nat} {c c' : Cmd} {ts r : List Tok} (hf : Fin ts) (h : restC k c ts = some (c', r)) : Fin r := by
 unfold restC at h
 split at h
 · unfold selO at h
   simp only [Option.bind_eq_some_iff, Option.map_eq_some_iff] at h
   obtain ⟨p, h1, q, h2, h3⟩ := h
   simp at h3
   obtain ⟨_, rfl⟩ := h3
   exact (hf.take (by decide) h1).mbox h2
 split at h
 · unfold appO at h
   simp only [Option.bind_eq_some_iff] at h
   obtain ⟨p, h1, q, h2, z, h3, h⟩ := h
   have hf3 := ((hf.take (by decide) h1).mbox h2).take (by decide) h3
   split at h
   · simp only [Option.bind_eq_some_iff, Option.map_eq_some_iff] at h
     obtain ⟨f, h4, g, h5, y, h6, d, h7, h8⟩ := h
     simp at h8
     obtain ⟨_, rfl⟩ := h8
     exact ((list_ok hf3 h4).2.take (by decide) h6).take (by decide) h7
   · simp only [Option.map_eq_some_iff] at h
     obtain ⟨d, h7, h8⟩ := h
     simp at h8
     obtain ⟨_, rfl⟩ := h8
     exact hf3.take (by decide) h7
 split at h
 · unfold fetO at h
   simp only [Option.bind_eq_some_iff] at h
   obtain ⟨p, h1, q, h2, z, h3, h⟩ := h
   have hf3 := ((hf.take (by decide) h1).set h2).take (by decide) h3
   split at h
   · simp only [Option.bind_eq_some_iff, Option.map_eq_some_iff] at h
     obtain ⟨f, h4, g, h5, h8⟩ := h
     simp at h8
     obtain ⟨_, rfl⟩ := h8
     exact (list_ok hf3 h4).2
   · simp only [Option.bind_eq_some_iff, Option.map_eq_some_iff] at h
     obtain ⟨d, h7, i, h9, h8⟩ := h
     simp at h8
     obtain ⟨_, rfl⟩ := h8
     exact hf3.take (by decide) h7
 split at h
 · unfold stoO at h
   simp only [Option.bind_eq_some_iff] at h
   obtain ⟨p, h1, q, h2, z, h3, m, h4, mo, h5, y, h6, h⟩ := h
   have hf3 := ((((hf.take (by decide) h1).set h2).take (by decide) h3).take (by decide) h4).take (by decide) h6
   split at h
   · simp only [Option.bind_eq_some_iff, Option.map_eq_some_iff] at h
     obtain ⟨f, h4, g, h5, h8⟩ := h
     simp at h8
     obtain ⟨_, rfl⟩ := h8
     exact (list_ok hf3 h4).2
   · simp only [Option.bind_eq_some_iff, Option.map_eq_some_iff] at h
     obtain ⟨f, h4, g, h5, h8⟩ := h
     simp at h8
     obtain ⟨_, rfl⟩ := h8
     exact (words_ok hf3 h4).2
 · simp at h
   obtain ⟨_, rfl⟩ := h
   exact hf
theorem enters_rule (k : Nat) (args : Array Value) (w : World) : (callFunc (ruleF k) args).run Tryz.prog w = .ok (.enter (ruleF k) args) w := by
 unfold ruleF
 repeat' split
 all_goals kernel_rfl
theorem parse7_any (B c : Nat) (A : Option Addr) (tag l : List UInt8) (hl : l.length ≤ 9000) (w : World) (henv : Env w) (hA : ByAt B w A c l) :
 Calls Tryz.prog 35 #[.string ⟨tag.toArray⟩, .slice A l.length c] w (PaPost tag l w) := by
 have NT := Hi (fun w1 => need_t w1)
 have NF := Hi (fun w1 => need_f w1)
 have B0 := YB w (.cells #[.string ⟨#[]⟩, .int .i64 0, .string ⟨#[]⟩, .slice none 0 0, .int .i64 0, .int .i64 0, .bool false, .int .u8 0, .slice none 0 0] 26)
 have hA0 := hA.grow B0
 have TK := Hi (tokens_any B c A l (by omega) _ (henv.below B0) hA0)
 have HE := Hi (fun W (hB : Below w.heap.size w W) => henv.below hB)
 have HRB0 := Hi (YD w (.cells #[.string ⟨#[]⟩, .int .i64 0, .string ⟨#[]⟩, .slice none 0 0, .int .i64 0, .int .i64 0, .bool false, .int .u8 0, .slice none 0 0] 26))
 have HB0 := Hi B0
 have HL := Hi hl
 clear hA hA0 henv hl B0
 go_enter Tryz.func35, Tryz.ntmps35
 go_wp2_with fail
 refine TK.out.mono ?_
 rintro e w1 ⟨v, ts, x, rfl, hO, hT, hb1⟩
 have HB1 := Hi (YA HB0.out hb1)
 have HRB := Hi ((hb1.block w.heap.size (by simp)).trans HRB0.out)
 have HO := Hi hO
 have HT := Hi hT
 have hws : w.heap.size + 1 ≤ w1.heap.size := by have := hb1.size; simpa using this
 have hcase : (x = -1 ∧ Fin ts) ∨ (∃ n : Nat, x = n) := by
  rcases hT with ⟨us, h1, h2, h3⟩ | ⟨us, k, _, _, _, _, h3⟩
  · exact .inl ⟨h3, Fin.toks HL.out (.inl ⟨us, h1, h2, rfl⟩)⟩
  · exact .inr ⟨k, h3⟩
 clear hb1 hO hT TK HB0 HRB0
 rcases hcase with ⟨rfl, hf⟩ | ⟨n, rfl⟩
 rotate_left
 · have d0 : decide ((n : Int) < 0) = false := by simp
   go_wp2_with fail
   refine (NF.out _).mono ?_
   rintro e w2 ⟨rfl, rfl⟩
   exact ⟨rfl, .inr ⟨ts, n, HT, Hi (.inl (by omega)), rfl, HB1.out⟩⟩
 · have HF := Hi hf
   obtain ⟨A', k', rfl⟩ := YV HO.out
   have HP : Hid (Ps w1.heap.size w1.heap.size (.slice A' ts.length k') ts (cmd0 tag) (.slice none 0 0) (.slice none 0 0) (w1.alloc (.cells #[.slice A' ts.length k', .string ⟨tag.toArray⟩, .int .i64 0, .string ⟨#[]⟩, .slice none 0 0, .int .i64 0, .int .i64 0, .bool false, .int .u8 0, .slice none 0 0] 107))) := Hi (by
    have htx : SlX encT 3 w1.heap.size w1.heap.size w1 (.slice A' ts.length k') ts := by
     refine SlX.of_sl (SlAt.of_own encT_len HO.out) ?_ (fun b off e => ?_)
     · rcases HO.out.2 with ⟨h1, h0⟩ | ⟨g, cap, cur, h1, _, _, hn, _⟩
       · omega
       · injection h1 with _ _ h3
         omega
     · subst e
       have := HO.out.lt b rfl
       omega
    refine ⟨YD _ _, htx.grow (YB _ _), SlX.nil _ _ _ _ _, SlX.nil _ _ _ _ _, by simp, fun b off s n k e => (by simp at e), fun b off s n k e => (by simp at e)⟩)
   clear hf HO
   go_wp2_with fail
   refine (NT.out _).mono ?_
   rintro e w2 ⟨rfl, rfl⟩
   have HBW : Hid (∀ W, World.grownBy (w1.alloc (.cells #[.slice A' ts.length k', .string ⟨tag.toArray⟩, .int .i64 0, .string ⟨#[]⟩, .slice none 0 0, .int .i64 0, .int .i64 0, .bool false, .int .u8 0, .slice none 0 0] 107)) W (some w1.heap.size) → Below w.heap.size w W) := Hi (fun W hW => (YA HB1.out (YB w1 _)).grown hW (by rw [World.size_alloc]; omega) (fun j hj => by cases hj; omega))
   have T4 := Hi (take_any w1.heap.size w1.heap.size 4 (by decide) _ HF.out HP.out)
   have hrb : w1.heap[w.heap.size]? = some (.cells #[.string ⟨#[]⟩, .int .i64 0, .string ⟨#[]⟩, .slice none 0 0, .int .i64 0, .int .i64 0, .bool false, .int .u8 0, .slice none 0 0] 26) := HRB.out
   have HRW : Hid (∀ W, World.grownBy (w1.alloc (.cells #[.slice A' ts.length k', .string ⟨tag.toArray⟩, .int .i64 0, .string ⟨#[]⟩, .slice none 0 0, .int .i64 0, .int .i64 0, .bool false, .int .u8 0, .slice none 0 0] 107)) W (some w1.heap.size) → W.heap[w.heap.size]? = some (.cells #[.string ⟨#[]⟩, .int .i64 0, .string ⟨#[]⟩, .slice none 0 0, .int .i64 0, .int .i64 0, .bool false, .int .u8 0, .slice none 0 0] 26)) := Hi (fun W hW => (hW.block _ (by rw [World.size_alloc]; omega) (fun e => by injection e; omega)).trans (((YB w1 _).block _ (by omega)).trans hrb))
   go_wp2_with fail
   generalize w1.alloc (.cells #[.slice A' ts.length k', .string ⟨tag.toArray⟩, .int .i64 0, .string ⟨#[]⟩, .slice none 0 0, .int .i64 0, .int .i64 0, .bool false, .int .u8 0, .slice none 0 0] 107) = W3 at *
   generalize hbs : w1.heap.size = bs at *
   have hbs0 : w.heap.size < bs := by omega
   clear hbs hrb HB1 HP hws HRB
   refine T4.out.mono ?_
   rintro e w2 (⟨x, r, tv2, ho, rfl, hP2, hG2⟩ | ⟨ho, rfl, hG2⟩)
   rotate_left
   · exact ⟨rfl, .inr ⟨ts, -1, HT, Hi (.inr (by unfold bodyO; rw [ho.out]; rfl)), rfl, HBW.out _ hG2.out⟩⟩
   have hlx : x.length ≤ 9000 := by
    obtain ⟨t, ht, _, rfl⟩ := QE ho.out
    exact (HF.out.mem (by rw [ht]; simp)).2.1
   have S1 : Hid (bodyO tag ts = if QJ (upL x) = 0 then none else (restC (QJ (upL x)) { cmd0 tag with kind := QJ (upL x) } r).bind fun q => (YG 0 q.2).map fun _ => q.1) := Hi (by unfold bodyO; rw [ho.out]; rfl)
   have HFr := Hi (HF.out.take (by decide) ho.out)
   have U := Hi (upper_any ⟨x.toArray⟩ (by show x.toArray.size ≤ _; simp; omega) w2)
   have e0 : (ByteArray.mk x.toArray).data.toList = x := rfl
   rw [e0] at U
   have hul : (upL x).length ≤ 9000 := by rw [upL_length]; exact hlx
   have KI := fun W => kind_any ⟨(upL x).toArray⟩ (by show (upL x).toArray.size ≤ _; simp; omega) W
   have e1 : YC (ByteArray.mk (upL x).toArray).data.toList = QJ (upL x) := by show QJ (upL (upL x)) = _; rw [upL_upL]
   rw [e1] at KI
   have KI := Hi KI
   have LK := Hi (fun (W : World) b n D (hW : W.ownsMap Tryz.prog 9 fnE b n D) (hD : RulesD D) => look_rule hW hD (upL x) (by omega))
   have hk8 := kindU_le (upL x)
   clear e0 e1 hlx hul ho HF T4
   generalize QJ (upL x) = kd at *
   generalize upL x = u at *
   go_wp2_with fail
   refine U.out.mono ?_
   rintro e w3 ⟨rfl, hb3⟩
   have HP3 := Hi (hP2.out.grow hb3)
   have HG3 := Hi (hG2.out.trans (YE hb3))
   have RU := Hi (rules_any w3)
   clear hb3 hP2 hG2 U
   go_wp2_with fail
   refine RU.out.mono ?_
   rintro e w4 ⟨b4, n4, D4, rfl, ho4, hD4, hb4, hbel⟩
   have lk := LK.out w4 b4 n4 D4 ho4 hD4
   have HP4 := Hi (HP3.out.grow hbel)
   have HG4 := Hi (HG3.out.trans (YE hbel))
   clear ho4 hD4 hb4 hbel HP3 HG3 RU LK
   by_cases hk0 : kd = 0
   · subst hk0
     have S1 : Hid (bodyO tag ts = none) := Hi (by rw [S1.out]; rfl)
     simp only [if_true, ne_eq, not_true_eq_false, decide_false] at lk
     go_wp2_with fail
     refine (NF.out _).mono ?_
     rintro e w5 ⟨rfl, rfl⟩
     exact ⟨rfl, .inr ⟨ts, -1, HT, Hi (.inr S1.out), rfl, HBW.out _ HG4.out⟩⟩
   have S2 : Hid (bodyO tag ts = (restC kd { cmd0 tag with kind := kd } r).bind fun q => (YG 0 q.2).map fun _ => q.1) := Hi (by rw [S1.out, if_neg hk0])
   rw [if_neg hk0, show decide (kd ≠ 0) = true by simpa using hk0] at lk
   have R := Hi (fun tv sv dv (W : World) (hW : World.grownBy W3 W (some bs)) (h : Ps bs W.heap.size tv r { cmd0 tag with kind := kd } sv dv W) => rule_any kd bs ⟨by omega, hk8⟩ W rfl (fun W' hW' => HE.out W' (HBW.out W' (hW.trans hW'))) HFr.out h)
   have HEN := fun args W => enters_rule kd args W
   have HRF : Hid (∀ c' r', restC kd { cmd0 tag with kind := kd } r = some (c', r') → Fin r') := Hi (fun c' r' e => restC_fin HFr.out e)
   generalize ruleF kd = F at *
   clear S1
   go_wp2_with fail
   refine (NT.out _).mono ?_
   rintro e w5 ⟨rfl, rfl⟩
   go_wp2_with fail
   refine (KI.out _).mono ?_
   rintro e w5 ⟨rfl, hb5⟩
   have hp5 := (HP4.out.grow hb5).here
   have f2 := Joins.unfrozen_of_block hp5.blk 2
   have c2 := hp5.cell 2 _ rfl
   have hp6 := hp5.set_ 2 (.int .i64 (kd : Int)) (c' := { cmd0 tag with kind := kd }) rfl hp5.toks hp5.sets hp5.dats hp5.snew hp5.dnew
   have hg6 := (HG4.out.trans (YE hb5)).trans (YH (World.grownBy.refl w5 (some bs)) 2 (.int .i64 (kd : Int)))
   have R6 := Hi (R.out _ _ _ _ hg6 hp6.here)
   have HG6 := Hi hg6
   clear hp5 hp6 hg6 hb5 HP4 HG4 KI R lk
   go_wp2_with fail
   refine R6.out.mono ?_
   rintro e w6 (⟨c6, r6, tv6, sv6, dv6, ho6, rfl, hP6, hG6⟩ | ⟨ho6, rfl, hG6⟩)
   rotate_left
   · exact ⟨rfl, .inr ⟨ts, -1, HT, Hi (.inr (by rw [S2.out, ho6.out]; rfl)), rfl, HBW.out _ (HG6.out.trans hG6.out)⟩⟩
   have S6 : Hid (bodyO tag ts = (YG 0 r6).map fun _ => c6) := Hi (by rw [S2.out, ho6.out]; rfl)
   have T0 := Hi (take_any bs _ 0 (by decide) w6 (HRF.out _ _ ho6.out) hP6.out)
   have HG7 := Hi (HG6.out.trans hG6.out)
   clear ho6 hP6 hG6 HG6 R6 S2 HRF c2 f2
   go_wp2_with fail
   refine T0.out.mono ?_
   rintro e w7 (⟨x7, r7, tv7, ho7, rfl, hP7, hG7⟩ | ⟨ho7, rfl, hG7⟩)
   rotate_left
   · exact ⟨rfl, .inr ⟨ts, -1, HT, Hi (.inr (by rw [S6.out, ho7.out]; rfl)), rfl, HBW.out _ (HG7.out.trans hG7.out)⟩⟩
   have S7 : Hid (bodyO tag ts = some c6) := Hi (by rw [S6.out, ho7.out]; rfl)
   obtain ⟨Ss, ks, hsv, hsl, _⟩ := hP7.out.sets
   obtain ⟨Sd, kd', hdv, hdl, _⟩ := hP7.out.dats
   subst hsv hdv
   have c1 := hP7.out.cell 1 _ rfl
   have c2 := hP7.out.cell 2 _ rfl
   have c3 := hP7.out.cell 3 _ rfl
   have c4 := hP7.out.cell 4 _ rfl
   have c5 := hP7.out.cell 5 _ rfl
   have c6' := hP7.out.cell 6 _ rfl
   have c7 := hP7.out.cell 7 _ rfl
   have c8 := hP7.out.cell 8 _ rfl
   have c9 := hP7.out.cell 9 _ rfl
   have hr7 := HRW.out w7 (HG7.out.trans hG7.out)
   have f0 := fun j => Joins.unfrozen_of_block hr7 j
   have d0 := cell_of_row _ _ 0 _ _ _ hr7
   have d1 := cell_of_row _ _ 1 _ _ _ hr7
   have d2 := cell_of_row _ _ 2 _ _ _ hr7
   have d3 := cell_of_row _ _ 3 _ _ _ hr7
   have d4 := cell_of_row _ _ 4 _ _ _ hr7
   have d5 := cell_of_row _ _ 5 _ _ _ hr7
   have d6 := cell_of_row _ _ 6 _ _ _ hr7
   have d7 := cell_of_row _ _ 7 _ _ _ hr7
   have d8 := cell_of_row _ _ 8 _ _ _ hr7
   have HR7 := Hi hr7
   have HB7 := Hi (HBW.out w7 (HG7.out.trans hG7.out))
   clear ho7 hG7 HG7 T0 S6 hr7
   go_wp2_with fail
   change bodyPost _ _ _ _ _ (stC w7 w.heap.size (.string ⟨c6.tag.toArray⟩) (.int .i64 (c6.kind : Int)) (.string ⟨c6.mbox.toArray⟩) (.slice Ss c6.set.length ks) (.int .i64 (c6.items : Int)) (.int .i64 (c6.mode : Int)) (.bool c6.silent) (.int .u8 (c6.flags : Int)) (.slice Sd c6.data.length kd'))
   have hq := stC_block HR7.out (.string ⟨c6.tag.toArray⟩) (.int .i64 (c6.kind : Int)) (.string ⟨c6.mbox.toArray⟩) (.slice Ss c6.set.length ks) (.int .i64 (c6.items : Int)) (.int .i64 (c6.mode : Int)) (.bool c6.silent) (.int .u8 (c6.flags : Int)) (.slice Sd c6.data.length kd')
   have hgq := stC_grown w7 w.heap.size (.string ⟨c6.tag.toArray⟩) (.int .i64 (c6.kind : Int)) (.string ⟨c6.mbox.toArray⟩) (.slice Ss c6.set.length ks) (.int .i64 (c6.items : Int)) (.int .i64 (c6.mode : Int)) (.bool c6.silent) (.int .u8 (c6.flags : Int)) (.slice Sd c6.data.length kd')
   have q0 := cell_of_row _ _ 0 _ _ _ hq
   have q1 := cell_of_row _ _ 1 _ _ _ hq
   have q2 := cell_of_row _ _ 2 _ _ _ hq
   have q3 := cell_of_row _ _ 3 _ _ _ hq
   have q4 := cell_of_row _ _ 4 _ _ _ hq
   have q5 := cell_of_row _ _ 5 _ _ _ hq
   have q6 := cell_of_row _ _ 6 _ _ _ hq
   have q7 := cell_of_row _ _ 7 _ _ _ hq
   have q8 := cell_of_row _ _ 8 _ _ _ hq
   have HV := Hi (cmdV_st hP7.out hbs0 hgq)
   have HNW : Hid (NewS w.heap.size (.slice Ss c6.set.length ks) ∧ NewS w.heap.size (.slice Sd c6.data.length kd')) := Hi ⟨fun b off s n k e => by have := hP7.out.snew b off s n k e; omega, fun b off s n k e => by have := hP7.out.dnew b off s n k e; omega⟩
   have HBF := Hi (HB7.out.grown hgq HB7.out.size (fun j hj => by cases hj; exact Nat.le_refl _))
   clear hq hgq HB7 HR7 f0 d0 d1 d2 d3 d4 d5 d6 d7 d8 c1 c2 c3 c4 c5 c6' c7 c8 c9 hsl hdl hP7
   generalize stC w7 w.heap.size (.string ⟨c6.tag.toArray⟩) (.int .i64 (c6.kind : Int)) (.string ⟨c6.mbox.toArray⟩) (.slice Ss c6.set.length ks) (.int .i64 (c6.items : Int)) (.int .i64 (c6.mode : Int)) (.bool c6.silent) (.int .u8 (c6.flags : Int)) (.slice Sd c6.data.length kd') = w9 at *
   refine bodyPost_ret (v := .agg (cmdA c6 (.slice Ss c6.set.length ks) (.slice Sd c6.data.length kd'))) (by simp [results, Tryz.results35, go_sem, cmdA, q0, q1, q2, q3, q4, q5, q6, q7, q8]) rfl ?_
   exact .inl ⟨ts, c6, _, _, HT, S7, rfl, HV, HNW, HBF.out⟩
end Go.Proofs.YtpgfnlhfciacoaaGreatDoor
