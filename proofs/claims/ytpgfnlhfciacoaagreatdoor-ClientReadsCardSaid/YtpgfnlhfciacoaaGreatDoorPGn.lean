import Derived.Test.YtpgfnlhfciacoaaGreatDoorPGj
import Derived.WalkSmall
import Derived.Test.YtpgfnlhfciacoaaGreatDoorPKb
import Derived.Test.YtpgfnlhfciacoaaGreatDoorPCmdEq
import Derived.Deep.LoopGhost
set_option maxRecDepth 100000
set_option maxHeartbeats 2000000
open Go.Lib renaming hid → Hi
namespace Go.Proofs.YtpgfnlhfciacoaaGreatDoor
open Go.RowKit
def SlX {α : Type} (enc : α → List Value) (k bs B : Nat) (w : World) (v : Value) (l : List α) : Prop :=
 ∃ A c, v = .slice A l.length c ∧ l.length ≤ c ∧ (l = [] ∨ ∃ b off, A = some ⟨b, off, none⟩ ∧ b ≠ bs ∧ b < B ∧ b < w.heap.size ∧ ∀ j x, l[j]? = some x → ∀ i u, (enc x)[i]? = some u → w.cell? ⟨b, off + j * k + i, none⟩ = some u)
section
variable {α : Type} {enc : α → List Value} {k bs B : Nat} {w w' : World} {v : Value} {l : List α}
theorem SlX.step (h : SlX enc k bs B w v l) (hs : w.heap.size ≤ w'.heap.size) (hk : ∀ b, b ≠ bs → b < B → b < w.heap.size → w'.heap[b]? = w.heap[b]?) : SlX enc k bs B w' v l := by
 obtain ⟨A, c, rfl, hle, h⟩ := h
 refine ⟨A, c, rfl, hle, ?_⟩
 rcases h with h | ⟨b, off, rfl, hb, hB, hlt, hc⟩
 · exact .inl h
 · refine .inr ⟨b, off, rfl, hb, hB, Nat.lt_of_lt_of_le hlt hs, fun j x hj i u hi => ?_⟩
   have := hc j x hj i u hi
   unfold World.cell? at this ⊢
   rw [hk b hb hB hlt]
   exact this
theorem SlX.kept (h : SlX enc k bs B w v l) (hg : w.grownBy w' (some bs)) : SlX enc k bs B w' v l :=
 h.step hg.size (fun b hb _ hlt => hg.block b hlt (fun e => hb (by injection e)))
theorem SlX.grow (h : SlX enc k bs B w v l) (hb : Below w.heap.size w w') : SlX enc k bs B w' v l := h.kept (YE hb)
theorem SlX.own (h : SlX enc k bs B w v l) {row : Option Nat} (hg : w.grownBy w' row) (hr : ∀ g, row = some g → B ≤ g) : SlX enc k bs B w' v l :=
 h.step hg.size (fun b _ hB hlt => hg.block b hlt (fun e => by have := hr b e.symm; omega))
theorem SlX.here (h : SlX enc k bs B w v l) {B' : Nat} (hB : w.heap.size ≤ B') : SlX enc k bs B' w v l := by
 obtain ⟨A, c, rfl, hle, h⟩ := h
 refine ⟨A, c, rfl, hle, ?_⟩
 rcases h with h | ⟨b, off, rfl, hb, _, hlt, hc⟩
 · exact .inl h
 · exact .inr ⟨b, off, rfl, hb, by omega, hlt, hc⟩
theorem SlX.nil (bs B : Nat) (w : World) (A : Option Addr) (c : Nat) : SlX enc k bs B w (.slice A 0 c) [] := ⟨A, c, rfl, Nat.zero_le _, .inl rfl⟩
theorem SlX.of_sl {A : Option Addr} {c : Nat} (h : SlAt enc k w A l) (hle : l.length ≤ c) (hb : ∀ b off, A = some ⟨b, off, none⟩ → b ≠ bs) : SlX enc k bs w.heap.size w (.slice A l.length c) l := by
 refine ⟨A, c, rfl, hle, ?_⟩
 rcases h with h | ⟨b, off, rfl, hlt, hc⟩
 · exact .inl h
 · exact .inr ⟨b, off, rfl, hb b off rfl, hlt, hlt, hc⟩
theorem SlX.of_own {base : Nat} {e : TypeId} (hk : ∀ x, (enc x).length = k) (h : w.ownsRow base e k v l.length (YF enc l)) (hb : bs < base) : SlX enc k bs w.heap.size w v l := by
 obtain ⟨A, c, rfl⟩ := YV h
 refine SlX.of_sl (SlAt.of_own hk h) ?_ (fun b off e => ?_)
 · rcases h.2 with ⟨h1, h0⟩ | ⟨g, cap, cur, h1, _, _, hn, _⟩
   · omega
   · injection h1 with _ _ h3
     omega
 · subst e
   have := h.lt b rfl
   omega
theorem SlX.sl (h : SlX enc k bs B w v l) : ∃ A c, v = .slice A l.length c ∧ l.length ≤ c ∧ SlAt enc k w A l := by
 obtain ⟨A, c, rfl, hle, h⟩ := h
 refine ⟨A, c, rfl, hle, ?_⟩
 rcases h with h | ⟨b, off, rfl, hb, _, hlt, hc⟩
 · exact .inl h
 · exact .inr ⟨b, off, rfl, hlt, hc⟩
end
def cmdA (c : Cmd) (sv dv : Value) : Array Value := #[.string ⟨c.tag.toArray⟩, .int .i64 (c.kind : Int), .string ⟨c.mbox.toArray⟩, sv, .int .i64 (c.items : Int), .int .i64 (c.mode : Int), .bool c.silent, .int .u8 (c.flags : Int), dv]
structure Ps (bs B : Nat) (tv : Value) (ts : List Tok) (c : Cmd) (sv dv : Value) (w : World) : Prop where
 blk : w.heap[bs]? = some (.cells #[tv, .string ⟨c.tag.toArray⟩, .int .i64 (c.kind : Int), .string ⟨c.mbox.toArray⟩, sv, .int .i64 (c.items : Int), .int .i64 (c.mode : Int), .bool c.silent, .int .u8 (c.flags : Int), dv] 107 (0, 0))
 toks : SlX encT 3 bs B w tv ts
 sets : SlX encR 2 bs B w sv c.set
 dats : SlX encB 1 bs B w dv c.data
 size : B ≤ w.heap.size
 snew : ∀ b off s n k, sv = .slice (some ⟨b, off, s⟩) n k → bs < b
 dnew : ∀ b off s n k, dv = .slice (some ⟨b, off, s⟩) n k → bs < b
section
variable {bs B : Nat} {tv sv dv : Value} {ts : List Tok} {c : Cmd} {w w' : World}
theorem Ps.lt (h : Ps bs B tv ts c sv dv w) : bs < w.heap.size := (Array.getElem?_eq_some_iff.1 h.blk).1
theorem Ps.grow (h : Ps bs B tv ts c sv dv w) (hb : Below w.heap.size w w') : Ps bs B tv ts c sv dv w' :=
 ⟨(hb.block bs h.lt).trans h.blk, h.toks.grow hb, h.sets.grow hb, h.dats.grow hb, Nat.le_trans h.size hb.size, h.snew, h.dnew⟩
theorem Ps.here (h : Ps bs B tv ts c sv dv w) : Ps bs w.heap.size tv ts c sv dv w := ⟨h.blk, h.toks.here (Nat.le_refl _), h.sets.here (Nat.le_refl _), h.dats.here (Nat.le_refl _), Nat.le_refl _, h.snew, h.dnew⟩
theorem Ps.own (h : Ps bs B tv ts c sv dv w) {row : Option Nat} (hg : w.grownBy w' row) (hr : ∀ g, row = some g → B ≤ g ∧ bs < g) : Ps bs B tv ts c sv dv w' :=
 ⟨(hg.block bs h.lt (fun e => by have := (hr bs e.symm).2; omega)).trans h.blk, h.toks.own hg (fun g e => (hr g e).1), h.sets.own hg (fun g e => (hr g e).1), h.dats.own hg (fun g e => (hr g e).1), Nat.le_trans h.size hg.size, h.snew, h.dnew⟩
theorem grown_own {wr : World} {n : Nat} {row : Option Nat} (h : w.grownBy wr (some n)) (hg : wr.grownBy w' row) (hr : ∀ g, row = some g → w.heap.size ≤ g) : w.grownBy w' (some n) :=
 ⟨hg.os.trans h.os, hg.tape.trans h.tape, hg.output.trans h.output, Nat.le_trans h.size hg.size, fun k hk hne => (hg.block k (Nat.lt_of_lt_of_le hk h.size) (fun e => by have := hr k e.symm; omega)).trans (h.block k hk hne)⟩
theorem Ps.set_ (h : Ps bs B tv ts c sv dv w) (i : Nat) (v : Value) {tv' sv' dv' : Value} {ts' : List Tok} {c' : Cmd}
 (he : (#[tv, .string ⟨c.tag.toArray⟩, .int .i64 (c.kind : Int), .string ⟨c.mbox.toArray⟩, sv, .int .i64 (c.items : Int), .int .i64 (c.mode : Int), .bool c.silent, .int .u8 (c.flags : Int), dv] : Array Value).setIfInBounds i v = #[tv', .string ⟨c'.tag.toArray⟩, .int .i64 (c'.kind : Int), .string ⟨c'.mbox.toArray⟩, sv', .int .i64 (c'.items : Int), .int .i64 (c'.mode : Int), .bool c'.silent, .int .u8 (c'.flags : Int), dv'])
 (ht : SlX encT 3 bs B w tv' ts') (hs : SlX encR 2 bs B w sv' c'.set) (hd : SlX encB 1 bs B w dv' c'.data) (hsn : ∀ b off s n k, sv' = .slice (some ⟨b, off, s⟩) n k → bs < b) (hdn : ∀ b off s n k, dv' = .slice (some ⟨b, off, s⟩) n k → bs < b) : Ps bs B tv' ts' c' sv' dv' (w.setCell ⟨bs, i, none⟩ v) := by
 have hg := YH (World.grownBy.refl w (some bs)) i v
 refine ⟨?_, ht.kept hg, hs.kept hg, hd.kept hg, Nat.le_trans h.size hg.size, hsn, hdn⟩
 rw [Joins.block_setCell h.blk, he]
theorem Ps.cell (h : Ps bs B tv ts c sv dv w) (i : Nat) (v : Value) (he : (#[tv, .string ⟨c.tag.toArray⟩, .int .i64 (c.kind : Int), .string ⟨c.mbox.toArray⟩, sv, .int .i64 (c.items : Int), .int .i64 (c.mode : Int), .bool c.silent, .int .u8 (c.flags : Int), dv] : Array Value)[i]? = some v) : w.cell? ⟨bs, i, none⟩ = some v := by
 rw [cell_of_row w bs i _ _ _ h.blk, he]
end
def syn : List PanicEntry := [{ v := .iface 101 (.int .i64 3), recovered := false }]
theorem need_t (w : World) : Calls Tryz.prog 34 #[.bool true] w fun e w' => e = .returned (.tuple #[]) ∧ w = w' := by
 go_enter Tryz.func34, Tryz.ntmps34
 go_wp2
 first | go_end0 | refine bodyPost_ret (results_none rfl _ _ _) rfl ?_
 exact ⟨rfl, rfl⟩
theorem need_f (w : World) : Calls Tryz.prog 34 #[.bool false] w fun e w' => e = .panicked syn ∧ w = w' := by
 go_enter Tryz.func34, Tryz.ntmps34
 go_wp2
 exact ⟨rfl, rfl, rfl⟩
theorem undT : Tryz.prog.underlying 102 = some (.slice (Tryz.prog.elem 102)) := by kernel_rfl
theorem sizeT (w : World) : (sizeOf (Tryz.prog.elem 102)).run Tryz.prog w = .ok 3 w := by kernel_rfl
theorem sliceT1 (b off n c : Nat) (h1 : 1 ≤ n) (W : World) :
 (Instr.slice 102 (.slice (some ⟨b, off, none⟩) n c) (some (.int .i64 1)) none none).run Tryz.prog W = .ok (.slice (if c = 1 then some ⟨b, off, none⟩ else some ⟨b, off + 3, none⟩) (n - 1) (c - 1)) W := by
 rw [run_slice_l W _ _ n c undT .i64 1 (by omega) (by omega), sizeT]
 simp [Result.andThen, sliced, Addr.add]
theorem sliceAtT (x : Value) (lo hi mx : Option Value) (W : World) : (Instr.sliceAt 102 x lo hi mx).run Tryz.prog W = (Instr.slice 102 x lo hi mx).run Tryz.prog W := run_sliceAt_slice W _ _ _ _ _ undT
section
variable {bs B : Nat} {tv sv dv : Value} {ts : List Tok} {c : Cmd} {w w' : World}
theorem toks_head {t : Tok} {r : List Tok} (h : SlX encT 3 bs B w tv (t :: r)) : ∃ b off n cap, tv = .slice (some ⟨b, off, none⟩) n cap ∧ n = r.length + 1 ∧ n ≤ cap ∧ b ≠ bs ∧ b < w.heap.size ∧
 w.cell? ⟨b, off, none⟩ = some (.int .i64 (t.kind : Int)) ∧ w.cell? ⟨b, off + 1, none⟩ = some (.string ⟨t.text.toArray⟩) ∧
 SlX encT 3 bs B w (.slice (if cap = 1 then some ⟨b, off, none⟩ else some ⟨b, off + 3, none⟩) (n - 1) (cap - 1)) r := by
 obtain ⟨A, cap, rfl, hle, h | ⟨b, off, rfl, hb, hB, hlt, hc⟩⟩ := h
 · cases h
 · have h0 := hc 0 t rfl 0 _ rfl
   have h1 := hc 0 t rfl 1 _ rfl
   refine ⟨b, off, _, cap, rfl, rfl, hle, hb, hlt, by simpa using h0, by simpa using h1, ?_⟩
   rw [List.length_cons] at hle ⊢
   refine ⟨_, _, rfl, by omega, ?_⟩
   rcases r with _ | ⟨s, r⟩
   · exact .inl rfl
   · refine .inr ⟨b, off + 3, ?_, hb, hB, hlt, fun j x hj i u hi => ?_⟩
     · rw [if_neg (by simp at hle; omega)]
     · have := hc (j + 1) x (by simpa using hj) i u hi
       rw [show off + 3 + j * 3 + i = off + (j + 1) * 3 + i by omega]
       exact this
end
theorem sees_any (bs B k : Nat) (_hk : k ≤ 6) {tv sv dv : Value} {ts : List Tok} {c : Cmd} (w : World) (hf : Fin ts) (h : Ps bs B tv ts c sv dv w) :
 Calls Tryz.prog 110 #[.pointer (some ⟨bs, 0, none⟩), .int .i64 (k : Int)] w fun e w' => e = .returned (.bool (YT k ts)) ∧ w = w' := by
 rcases ts with _ | ⟨t, r⟩
 · exact absurd rfl hf.ne
 · have ht := hf.kind
   obtain ⟨b, off, n, cap, rfl, hn, hle, hb, hlt, h0, h1, _⟩ := toks_head h.toks
   have c0 := h.cell 0 _ rfl
   have R := Hi (show ((t.kind : Int) == (k : Int)) = YT k (t :: r) by simp only [YT]; rw [Bool.eq_iff_iff]; simp; omega)
   clear h hf
   have hn0 : 0 < n := by omega
   clear hn
   generalize YT k (t :: r) = q at *
   generalize t.kind = tk at *
   generalize (⟨t.text.toArray⟩ : ByteArray) = tx at *
   go_enter Tryz.func110, Tryz.ntmps110
   go_wp2_with fail
   go_ret
   exact ⟨YU R.out, rfl⟩
def TPost (bs B k : Nat) (ts : List Tok) (c : Cmd) (sv dv : Value) (w : World) (e : Ending) (w' : World) : Prop :=
 (∃ x r tv, Hid (YG k ts = some (x, r)) ∧ e = .returned (.string ⟨x.toArray⟩) ∧ Hid (Ps bs B tv r c sv dv w') ∧ Hid (w.grownBy w' (some bs))) ∨
 (Hid (YG k ts = none) ∧ e = .panicked syn ∧ Hid (w.grownBy w' (some bs)))
theorem take_any (bs B k : Nat) (hk : k ≤ 6) {tv sv dv : Value} {ts : List Tok} {c : Cmd} (w : World) (hf : Fin ts) (h : Ps bs B tv ts c sv dv w) :
 Calls Tryz.prog 70 #[.pointer (some ⟨bs, 0, none⟩), .int .i64 (k : Int)] w (TPost bs B k ts c sv dv w) := by
 have SE := sees_any bs B k hk w hf h
 rcases ts with _ | ⟨t, r⟩
 · exact absurd rfl hf.ne
 · cases hs : YT k (t :: r) with
   | false =>
     rw [hs] at SE
     have SE := Hi SE
     have HT := Hi (show YG k (t :: r) = none by simp [YT] at hs; simp [YG, hs])
     have NF := Hi (need_f w)
     clear hs h hf
     go_enter Tryz.func70, Tryz.ntmps70
     go_wp2_with fail
     refine SE.out.mono ?_
     rintro e w1 ⟨rfl, rfl⟩
     go_wp2_with fail
     refine NF.out.mono ?_
     rintro e w1 ⟨rfl, rfl⟩
     exact ⟨rfl, .inr ⟨HT, rfl, Hi (World.grownBy.refl _ _)⟩⟩
   | true =>
     rw [hs] at SE
     have SE := Hi SE
     have HT := Hi (show YG k (t :: r) = some (t.text, r) by simp [YT] at hs; simp [YG, hs])
     have NT := Hi (need_t w)
     obtain ⟨b, off, n, cap, rfl, hn, hle, hb, hlt, h0, h1, hx⟩ := toks_head h.toks
     have c0 := h.cell 0 _ rfl
     have f0 := Joins.unfrozen_of_block h.blk 0
     have hn0 : 0 < n := by omega
     have hsl := fun W => sliceT1 b off n cap (by omega) W
     have hse := fun x lo hi mx W => sliceAtT x lo hi mx W
     have HP := Hi (h.set_ 0 (.slice (if cap = 1 then some ⟨b, off, none⟩ else some ⟨b, off + 3, none⟩) (n - 1) (cap - 1)) (c' := c) (ts' := r) rfl hx h.sets h.dats h.snew h.dnew)
     have HG := Hi (YH (World.grownBy.refl w (some bs)) 0 (.slice (if cap = 1 then some ⟨b, off, none⟩ else some ⟨b, off + 3, none⟩) (n - 1) (cap - 1)))
     generalize (if cap = 1 then some ⟨b, off, none⟩ else some ⟨b, off + 3, none⟩ : Option Addr) = A' at *
     clear hs h hf hn hx
     generalize t.kind = tk at *
     generalize htx : (⟨t.text.toArray⟩ : ByteArray) = tx at *
     have HTX := Hi htx
     clear htx
     go_enter Tryz.func70, Tryz.ntmps70
     go_wp2_with fail
     refine SE.out.mono ?_
     rintro e w1 ⟨rfl, rfl⟩
     go_wp2_with fail
     refine NT.out.mono ?_
     rintro e w1 ⟨rfl, rfl⟩
     go_wp2_with fail
     go_ret
     exact .inl ⟨t.text, r, _, HT, by rw [HTX.out]; rfl, HP, HG⟩
theorem take_ok (bs B k : Nat) (hk : k ≤ 6) {tv sv dv : Value} {ts r : List Tok} {x : List UInt8} {c : Cmd} (w : World) (hf : Fin ts) (h : Ps bs B tv ts c sv dv w) (ht : YG k ts = some (x, r)) :
 Calls Tryz.prog 70 #[.pointer (some ⟨bs, 0, none⟩), .int .i64 (k : Int)] w fun e w' => ∃ tv', e = .returned (.string ⟨x.toArray⟩) ∧ Hid (Ps bs B tv' r c sv dv w') ∧ Hid (w.grownBy w' (some bs)) := by
 refine (take_any bs B k hk w hf h).mono ?_
 rintro e w' (⟨x', r', tv', ho, rfl, hP, hG⟩ | ⟨ho, _, _⟩)
 · have := ho.out
   rw [ht] at this
   simp at this
   obtain ⟨rfl, rfl⟩ := this
   exact ⟨tv', rfl, hP, hG⟩
 · have := ho.out
   rw [ht] at this
   cases this
theorem one_flatS (l : List (List UInt8)) : ∀ u ∈ YF encS l, u.oneCell' = true := by
 induction l with
 | nil => intro u hu; simp [YF] at hu
 | cons t l ih =>
   intro u hu
   have e : YF encS (t :: l) = encS t ++ YF encS l := rfl
   rw [e] at hu
   rcases List.mem_append.1 hu with h | h
   · simp [encS] at h
     subst h; rfl
   · exact ih u h
theorem slAt_oneStr (w : World) (x : List UInt8) (T : TypeId) : SlAt encS 1 (w.alloc (.cells #[.string ⟨x.toArray⟩] T)) (some ⟨w.heap.size, 0, none⟩) [x] := by
 refine .inr ⟨w.heap.size, 0, rfl, by simp, fun j y hj i u hi => ?_⟩
 have hj0 : j = 0 := by
  have := (List.getElem?_eq_some_iff.1 hj).1
  simpa using this
 subst hj0
 obtain rfl : x = y := by simpa using hj
 have hi0 : i = 0 := by
  have := (List.getElem?_eq_some_iff.1 hi).1
  simpa [encS] using this
 subst hi0
 rw [Joins.cell_alloc_mark_at w _ _ _ _ _ rfl]
 simpa [encS] using hi
theorem own_one {w : World} {base : Nat} (hb : base ≤ w.heap.size) (x : List UInt8) : (w.alloc (.cells #[.string ⟨x.toArray⟩] 9)).ownsRow base 9 1 (.slice (some ⟨w.heap.size, 0, none⟩) 1 1) 1 (YF encS [x]) :=
 ⟨by simp [YF, encS], .inr ⟨w.heap.size, 1, #[.string ⟨x.toArray⟩], rfl, hb, YD w _, Nat.le_refl _, by decide, by simp, by simp [YF, encS]⟩⟩
theorem own_mono7 {w : World} {base base' : Nat} {e : TypeId} {size n : Nat} {v : Value} {xs : List Value} (h : w.ownsRow base e size v n xs) (hb : base' ≤ base) : w.ownsRow base' e size v n xs := by
 refine ⟨h.1, ?_⟩
 rcases h.2 with h | ⟨g, cap, cur, h1, h2, h3⟩
 · exact .inl h
 · exact .inr ⟨g, cap, cur, h1, Nat.le_trans hb h2, h3⟩
def WPost (bs B : Nat) (o : Option (List (List UInt8) × List Tok)) (c : Cmd) (sv dv : Value) (w : World) (e : Ending) (w' : World) : Prop :=
 (∃ ns r tv v, Hid (o = some (ns, r)) ∧ e = .returned v ∧ Hid (w'.ownsRow w.heap.size 9 1 v ns.length (YF encS ns)) ∧ Hid (Ps bs B tv r c sv dv w') ∧ Hid (w.grownBy w' (some bs))) ∨
 (Hid (o = none) ∧ e = .panicked syn ∧ Hid (w.grownBy w' (some bs)))
theorem sees_take {k : Nat} {ts : List Tok} (h : YT k ts = true) : ∃ t r, ts = t :: r ∧ t.kind = k ∧ YG k ts = some (t.text, r) := by
 rcases ts with _ | ⟨t, r⟩
 · simp [YT] at h
 · simp [YT] at h
   exact ⟨t, r, rfl, h, by simp [YG, h]⟩
theorem moreO_stop {ts : List Tok} (hf : Fin ts) (h : YT 1 ts = false) : moreO ts = some ([], ts) := by
 rcases ts with _ | ⟨s, _ | ⟨t, r⟩⟩
 · exact absurd rfl hf.ne
 · simp [YT] at h; simp [moreO, h]
 · simp [YT] at h; simp [moreO, h]
theorem moreO_step {s : Tok} {r : List Tok} (hs : s.kind = 1) (hf : Fin r) : moreO (s :: r) = (YG 4 r).bind fun p => (moreO p.2).map fun q => (p.1 :: q.1, q.2) := by
 rcases r with _ | ⟨t, r⟩
 · exact absurd rfl hf.ne
 · by_cases h4 : t.kind = 4 <;> simp [moreO, YG, hs, h4]
theorem words_any (bs B : Nat) {tv sv dv : Value} {ts : List Tok} {c : Cmd} (w : World) (hbs : bs < B) (hf : Fin ts) (h : Ps bs B tv ts c sv dv w) :
 Calls Tryz.prog 158 #[.pointer (some ⟨bs, 0, none⟩)] w (WPost bs B (QB ts) c sv dv w) := by
 obtain ⟨i0, hi, hz0, hz1, hz2⟩ := info_parts infoS
 have T0 := Hi (take_any bs B 4 (by decide) w hf h)
 have SE := Hi (fun tv ts w1 (hf : Fin ts) (h : Ps bs B tv ts c sv dv w1) => sees_any bs B 1 (by decide) w1 hf h)
 have T1 := Hi (fun tv ts r x w1 (hf : Fin ts) (h : Ps bs B tv ts c sv dv w1) (ht : YG 1 ts = some (x, r)) => take_ok bs B 1 (by decide) w1 hf h ht)
 have T4 := Hi (fun tv ts w1 (hf : Fin ts) (h : Ps bs B tv ts c sv dv w1) => take_any bs B 4 (by decide) w1 hf h)
 have hBs := h.size
 have HF := Hi hf
 clear h hf
 go_enter Tryz.func158, Tryz.ntmps158
 go_wp2_with fail
 refine T0.out.mono ?_
 rintro e w1 (⟨x, r, tv1, ho, rfl, hP, hG⟩ | ⟨ho, rfl, hG⟩)
 · obtain ⟨t0, ht0, hk0, rfl⟩ := QE ho.out
   have HW : Hid (QB ts = (moreO r).map fun p => ([t0.text] ++ p.1, p.2)) := Hi (by unfold QB; rw [ho.out]; rfl)
   have HFr : Hid (Fin r) := Hi (HF.out.take (by decide) ho.out)
   have hlen : r.length ≤ 9001 := HFr.out.len
   have hsz : w.heap.size ≤ w1.heap.size := hG.out.size
   have HO1 := Hi (own_one (w := w1) hsz t0.text)
   have HP1 := Hi (hP.out.grow (YB w1 (.cells #[.string ⟨t0.text.toArray⟩] 9)))
   have HG1 := Hi (hG.out.trans (YE (row := some bs) (YB w1 (.cells #[.string ⟨t0.text.toArray⟩] 9))))
   clear ht0 hP hG T0 hk0
   generalize t0.text = x0 at *
   go_wp2_with fail
   go_loopg [3] 9001 (fun gg v wr => ∃ (ns : List (List UInt8)) (tv : Value) (us : List Tok), us.length ≤ gg ∧ ns.length + us.length ≤ 9002 ∧ Hid (Fin us) ∧ Hid (Ps bs B tv us c sv dv wr) ∧ Hid (wr.ownsRow w.heap.size 9 1 v ns.length (YF encS ns)) ∧ Hid (w.grownBy wr (some bs)) ∧ Hid (QB ts = (moreO us).map fun p => (ns ++ p.1, p.2)))
   case atStart => exact ⟨[x0], tv1, r, by omega, by simp; omega, HFr, HP1, HO1, HG1, HW⟩
   case round =>
    obtain ⟨ns, tv2, us, hg1, hg2, hF, hP, hO, hG, hW⟩ := hrel
    clear HW HFr HP1 HG1 HO1 hlen hsz ho
    have S1 := SE.out _ _ wr hF.out hP.out
    cases hq : YT 1 us with
    | false =>
      rw [hq] at S1
      have S1 := Hi S1
      have HW2 : Hid (QB ts = some (ns, us)) := Hi (by rw [hW.out, moreO_stop hF.out hq]; simp)
      clear hq
      go_wp2_with fail
      refine S1.out.mono ?_
      rintro e w2 ⟨rfl, rfl⟩
      go_wp2_with fail
      go_ret
      exact .inl ⟨ns, us, tv2, _, HW2, rfl, hO, hP, hG⟩
    | true =>
      rw [hq] at S1
      have S1 := Hi S1
      obtain ⟨s, us2, hus, hsk, hst⟩ := sees_take hq
      have HF2 := Hi (hF.out.take (by decide) hst)
      have HW2 : Hid (QB ts = ((YG 4 us2).bind fun p => (moreO p.2).map fun q => (p.1 :: q.1, q.2)).map fun p => (ns ++ p.1, p.2)) := Hi (by rw [hW.out, hus, moreO_step hsk HF2.out])
      have T2 := Hi (T1.out _ _ _ _ wr hF.out hP.out hst)
      have hl2 : us2.length + 1 = us.length := by rw [hus]; simp
      clear hq hus hsk hst hW
      go_wp2_with fail
      refine S1.out.mono ?_
      rintro e w2 ⟨rfl, rfl⟩
      go_wp2_with fail
      refine T2.out.mono ?_
      rintro e w3 ⟨tv3, rfl, hP3, hG3⟩
      have HT4 := Hi (T4.out _ _ w3 HF2.out hP3.out)
      clear hP3 T2 S1
      go_wp2_with fail
      refine HT4.out.mono ?_
      rintro e w4 (⟨x, us3, tv4, ho4, rfl, hP4, hG4⟩ | ⟨ho4, rfl, hG4⟩)
      · obtain ⟨t4, ht4, _, rfl⟩ := QE ho4.out
        have HF3 := Hi (HF2.out.take (by decide) ho4.out)
        have hl3 : us3.length + 1 = us2.length := by rw [ht4]; simp
        have HW3 : Hid (QB ts = (moreO us3).map fun p => ((ns ++ [t4.text]) ++ p.1, p.2)) := Hi (by rw [HW2.out, ho4.out]; simp [Function.comp_def])
        have hsz4 : wr.heap.size ≤ w4.heap.size := Nat.le_trans hG3.out.size hG4.out.size
        have hszr : w.heap.size ≤ wr.heap.size := hG.out.size
        have HO4 := Hi ((hO.out.kept (hG3.out.trans hG4.out) (.inr (fun e => by have := hO.out.lt bs e; omega))).alloc (.cells #[.string ⟨t4.text.toArray⟩] 9))
        have how := fun g e => (hO.out.lt g e).1
        clear ht4 hO HT4 HW2 ho4
        generalize t4.text = x4 at *
        go_wp2_with (at_builtin; refine YL _ rfl (.tmp 11) (.tmp 14) 127 rfl w.heap.size 9 i0 _ 16 Tryz.underlying127 hi hz0 hz1 hz2 rfl (by decide) _ ns.length (YF encS ns) rfl HO4.out _ [x4] 1 rfl encS_len (slAt_oneStr _ _ _) (one_flatS _) (by simp only [List.length_singleton, maxLen]; omega) (by simp only [List.length_singleton]; omega) (by rw [World.size_alloc]; omega) ?_; intro v9 w9 hv9 hg9)
        have R1 := Hi ((hP4.out.grow (YB w4 (.cells #[.string ⟨x4.toArray⟩] 9))).own hg9 (fun g e => by have := how g e; omega))
        have R2 : Hid (w9.ownsRow w.heap.size 9 1 v9 (ns ++ [x4]).length (YF encS (ns ++ [x4]))) := Hi (by rw [List.length_append, ZR]; exact hv9)
        have R3 := Hi (grown_own (((hG.out.trans hG3.out).trans hG4.out).trans (YE (row := some bs) (YB w4 (.cells #[.string ⟨x4.toArray⟩] 9)))) hg9 (fun g e => how g e))
        clear hv9 hg9 HO4 hP4 hG4 hG3 hG hP hF
        go_wp2_with fail
        go_roundg us3.length
        case measure => omega
        case rel => exact ⟨ns ++ [x4], tv4, us3, by omega, by rw [List.length_append, List.length_singleton]; omega, HF3, R1, R2, R3, HW3⟩
      · have HN : Hid (QB ts = none) := Hi (by rw [HW2.out, ho4.out]; rfl)
        exact ⟨rfl, .inr ⟨HN, rfl, Hi ((hG.out.trans hG3.out).trans hG4.out)⟩⟩
 · have HN : Hid (QB ts = none) := Hi (by unfold QB; rw [ho.out]; rfl)
   exact ⟨rfl, .inr ⟨HN, rfl, hG⟩⟩
theorem list_any (bs B : Nat) {tv sv dv : Value} {ts : List Tok} {c : Cmd} (w : World) (hbs : bs < B) (hf : Fin ts) (h : Ps bs B tv ts c sv dv w) :
 Calls Tryz.prog 154 #[.pointer (some ⟨bs, 0, none⟩)] w (WPost bs B (QF ts) c sv dv w) := by
 have T0 := Hi (take_any bs B 2 (by decide) w hf h)
 have SE := Hi (fun tv ts w1 (hf : Fin ts) (h : Ps bs B tv ts c sv dv w1) => sees_any bs B 3 (by decide) w1 hf h)
 have T3 := Hi (fun tv ts w1 (hf : Fin ts) (h : Ps bs B tv ts c sv dv w1) => take_any bs B 3 (by decide) w1 hf h)
 have WO := Hi (fun tv ts w1 (hf : Fin ts) (h : Ps bs B tv ts c sv dv w1) => words_any bs B w1 hbs hf h)
 have hBs := h.size
 have HF := Hi hf
 clear h hf
 go_enter Tryz.func154, Tryz.ntmps154
 go_wp2_with fail
 refine T0.out.mono ?_
 rintro e w1 (⟨x, r, tv1, ho, rfl, hP, hG⟩ | ⟨ho, rfl, hG⟩)
 · have HFr : Hid (Fin r) := Hi (HF.out.take (by decide) ho.out)
   have HL : Hid (QF ts = if YT 3 r = true then (YG 3 r).map fun q => ([], q.2) else (QB r).bind fun q => (YG 3 q.2).map fun z => (q.1, z.2)) := Hi (by unfold QF; rw [ho.out]; rfl)
   have S1 := SE.out _ _ w1 HFr.out hP.out
   have T1 := T3.out _ _ w1 HFr.out hP.out
   have W1 := WO.out _ _ w1 HFr.out hP.out
   clear T0 ho
   cases hq : YT 3 r with
   | true =>
     rw [hq] at S1
     have HL : Hid (QF ts = (YG 3 r).map fun q => ([], q.2)) := Hi (by rw [HL.out, hq]; rfl)
     have S1 := Hi S1
     have T1 := Hi T1
     clear hq W1
     go_wp2_with fail
     refine S1.out.mono ?_
     rintro e w2 ⟨rfl, rfl⟩
     go_wp2_with fail
     refine T1.out.mono ?_
     rintro e w3 (⟨y, r3, tv3, ho3, rfl, hP3, hG3⟩ | ⟨ho3, rfl, hG3⟩)
     · have HL2 : Hid (QF ts = some ([], r3)) := Hi (by rw [HL.out, ho3.out]; rfl)
       have HG3 := Hi (hG.out.trans hG3.out)
       clear ho3 hG hG3
       go_wp2_with fail
       go_ret
       exact .inl ⟨[], r3, tv3, .slice none 0 0, HL2, rfl, Hi (World.ownsRow_nil _ _ _ _), hP3, HG3⟩
     · exact ⟨rfl, .inr ⟨Hi (by rw [HL.out, ho3.out]; rfl), rfl, Hi (hG.out.trans hG3.out)⟩⟩
   | false =>
     rw [hq] at S1
     have HL : Hid (QF ts = (QB r).bind fun q => (YG 3 q.2).map fun z => (q.1, z.2)) := Hi (by rw [HL.out, hq]; rfl)
     have S1 := Hi S1
     have W1 := Hi W1
     clear hq T1
     go_wp2_with fail
     refine S1.out.mono ?_
     rintro e w2 ⟨rfl, rfl⟩
     go_wp2_with fail
     refine W1.out.mono ?_
     rintro e w3 (⟨ns, r3, tv3, v3, ho3, rfl, hO3, hP3, hG3⟩ | ⟨ho3, rfl, hG3⟩)
     · have HF3 : Hid (Fin r3) := Hi (by
        obtain ⟨p, hp, _, hr, _⟩ := wordsO_some ho3.out
        have hf := HFr.out
        rw [hp] at hf
        exact hf.drop hr)
       have HL3 : Hid (QF ts = (YG 3 r3).map fun z => (ns, z.2)) := Hi (by rw [HL.out, ho3.out]; rfl)
       have T1 := Hi (T3.out _ _ w3 HF3.out hP3.out)
       have hsz : w.heap.size ≤ w1.heap.size := hG.out.size
       clear ho3 hP3 HL HFr S1 W1
       go_wp2_with fail
       refine T1.out.mono ?_
       rintro e w4 (⟨y, r4, tv4, ho4, rfl, hP4, hG4⟩ | ⟨ho4, rfl, hG4⟩)
       · have HL2 : Hid (QF ts = some (ns, r4)) := Hi (by rw [HL3.out, ho4.out]; rfl)
         have HO4 : Hid (w4.ownsRow w.heap.size 9 1 v3 ns.length (YF encS ns)) := Hi (own_mono7 (hO3.out.kept hG4.out (.inr (fun e => by have := hO3.out.lt bs e; omega))) hsz)
         have HG4 := Hi ((hG.out.trans hG3.out).trans hG4.out)
         clear ho4 hG hG3 hG4 hO3
         go_wp2_with fail
         go_ret
         exact .inl ⟨ns, r4, tv4, v3, HL2, rfl, HO4, hP4, HG4⟩
       · exact ⟨rfl, .inr ⟨Hi (by rw [HL3.out, ho4.out]; rfl), rfl, Hi ((hG.out.trans hG3.out).trans hG4.out)⟩⟩
     · exact ⟨rfl, .inr ⟨Hi (by rw [HL.out, ho3.out]; rfl), rfl, Hi (hG.out.trans hG3.out)⟩⟩
 · exact ⟨rfl, .inr ⟨Hi (by unfold QF; rw [ho.out]; rfl), rfl, hG⟩⟩
end Go.Proofs.YtpgfnlhfciacoaaGreatDoor
