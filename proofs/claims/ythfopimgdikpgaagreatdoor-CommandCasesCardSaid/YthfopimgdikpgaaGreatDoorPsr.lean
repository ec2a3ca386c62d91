/- command: the parser in memory; need, sees, take. -/
import Derived.Test.YthfopimgdikpgaaGreatDoorCmdMath
import Derived.Test.YthfopimgdikpgaaGreatDoorGf
import Derived.Test.YthfopimgdikpgaaGreatDoorGa
import Derived.WalkSmall
namespace Go.Proofs.YthfopimgdikpgaaGreatDoor
open Go.RowKit

/-- A slice whose cells read as the list; its array is not block bs, and below B. -/
def SlX {α : Type} (enc : α → List Value) (k bs B : Nat) (w : World) (v : Value) (l : List α) : Prop :=
  ∃ A c, v = .slice A l.length c ∧ l.length ≤ c ∧ (l = [] ∨ ∃ b off, A = some ⟨b, off, none⟩ ∧ b ≠ bs ∧ b < B ∧ b < w.heap.size ∧ ∀ j x, l[j]? = some x → ∀ i u, (enc x)[i]? = some u → w.cell? ⟨b, off + j * k + i, none⟩ = some u)
section
variable {α : Type} {enc : α → List Value} {k bs B : Nat} {w w' : World} {v : Value} {l : List α}
theorem SlX.step (h : SlX enc k bs B w v l) (hs : w.heap.size ≤ w'.heap.size) (hk : ∀ b, b ≠ bs → b < B → b < w.heap.size → w'.heap[b]? = w.heap[b]?) : SlX enc k bs B w' v l := by
  obtain ⟨A, c, rfl, hle, h⟩ := h
  refine ⟨A, c, rfl, hle, ?_⟩
  rcases h with h | ⟨b, off, rfl, hb, hB, hlt, hc⟩
  · exact .inl h
  · refine .inr ⟨b, off, rfl, hb, hB, Nat.lt_of_lt_of_le hlt hs, fun j x hj i u hi => ?_⟩
    have := hc j x hj i u hi
    unfold World.cell? at this ⊢
    rw [hk b hb hB hlt]
    exact this
theorem SlX.kept (h : SlX enc k bs B w v l) (hg : w.grownBy w' (some bs)) : SlX enc k bs B w' v l :=
  h.step hg.size (fun b hb _ hlt => hg.block b hlt (fun e => hb (by injection e)))
theorem SlX.grow (h : SlX enc k bs B w v l) (hb : Below w.heap.size w w') : SlX enc k bs B w' v l := h.kept (grown_of_below hb)
theorem SlX.own (h : SlX enc k bs B w v l) {row : Option Nat} (hg : w.grownBy w' row) (hr : ∀ g, row = some g → B ≤ g) : SlX enc k bs B w' v l :=
  h.step hg.size (fun b _ hB hlt => hg.block b hlt (fun e => by have := hr b e.symm; omega))
theorem SlX.here (h : SlX enc k bs B w v l) {B' : Nat} (hB : w.heap.size ≤ B') : SlX enc k bs B' w v l := by
  obtain ⟨A, c, rfl, hle, h⟩ := h
  refine ⟨A, c, rfl, hle, ?_⟩
  rcases h with h | ⟨b, off, rfl, hb, _, hlt, hc⟩
  · exact .inl h
  · exact .inr ⟨b, off, rfl, hb, by omega, hlt, hc⟩
theorem SlX.nil (bs B : Nat) (w : World) (A : Option Addr) (c : Nat) : SlX enc k bs B w (.slice A 0 c) [] := ⟨A, c, rfl, Nat.zero_le _, .inl rfl⟩
theorem SlX.of_sl {A : Option Addr} {c : Nat} (h : SlAt enc k w A l) (hle : l.length ≤ c) (hb : ∀ b off, A = some ⟨b, off, none⟩ → b ≠ bs) : SlX enc k bs w.heap.size w (.slice A l.length c) l := by
  refine ⟨A, c, rfl, hle, ?_⟩
  rcases h with h | ⟨b, off, rfl, hlt, hc⟩
  · exact .inl h
  · exact .inr ⟨b, off, rfl, hb b off rfl, hlt, hlt, hc⟩
/-- A row of the call's own that is newer than block bs. -/
theorem SlX.of_own {base : Nat} {e : TypeId} (hk : ∀ x, (enc x).length = k) (h : w.ownsRow base e k v l.length (flatL enc l)) (hb : bs < base) : SlX enc k bs w.heap.size w v l := by
  obtain ⟨A, c, rfl⟩ := own_any h
  refine SlX.of_sl (SlAt.of_own hk h) ?_ (fun b off e => ?_)
  · rcases h.2 with ⟨h1, h0⟩ | ⟨g, cap, cur, h1, _, _, hn, _⟩
    · omega
    · injection h1 with _ _ h3
      omega
  · subst e
    have := h.lt b rfl
    omega
theorem SlX.sl (h : SlX enc k bs B w v l) : ∃ A c, v = .slice A l.length c ∧ l.length ≤ c ∧ SlAt enc k w A l := by
  obtain ⟨A, c, rfl, hle, h⟩ := h
  refine ⟨A, c, rfl, hle, ?_⟩
  rcases h with h | ⟨b, off, rfl, hb, _, hlt, hc⟩
  · exact .inl h
  · exact .inr ⟨b, off, rfl, hlt, hc⟩
end

/-- A command's fields as cells. -/
def cmdA (c : Cmd) (sv dv : Value) : Array Value := #[.string ⟨c.tag.toArray⟩, .int .i64 (c.kind : Int), .string ⟨c.mbox.toArray⟩, sv, .int .i64 (c.items : Int), .int .i64 (c.mode : Int), .bool c.silent, .int .u8 (c.flags : Int), dv]
/-- The parser in block bs: the tokens that are left, the command's fields. -/
structure Ps (bs B : Nat) (tv : Value) (ts : List Tok) (c : Cmd) (sv dv : Value) (w : World) : Prop where
  blk : w.heap[bs]? = some (.cells #[tv, .string ⟨c.tag.toArray⟩, .int .i64 (c.kind : Int), .string ⟨c.mbox.toArray⟩, sv, .int .i64 (c.items : Int), .int .i64 (c.mode : Int), .bool c.silent, .int .u8 (c.flags : Int), dv] 73 (0, 0))
  toks : SlX encT 3 bs B w tv ts
  sets : SlX encR 2 bs B w sv c.set
  dats : SlX encB 1 bs B w dv c.data
  size : B ≤ w.heap.size
  snew : ∀ b off s n k, sv = .slice (some ⟨b, off, s⟩) n k → bs < b
  dnew : ∀ b off s n k, dv = .slice (some ⟨b, off, s⟩) n k → bs < b
section
variable {bs B : Nat} {tv sv dv : Value} {ts : List Tok} {c : Cmd} {w w' : World}
theorem Ps.lt (h : Ps bs B tv ts c sv dv w) : bs < w.heap.size := (Array.getElem?_eq_some_iff.1 h.blk).1
theorem Ps.grow (h : Ps bs B tv ts c sv dv w) (hb : Below w.heap.size w w') : Ps bs B tv ts c sv dv w' :=
  ⟨(hb.block bs h.lt).trans h.blk, h.toks.grow hb, h.sets.grow hb, h.dats.grow hb, Nat.le_trans h.size hb.size, h.snew, h.dnew⟩
theorem Ps.here (h : Ps bs B tv ts c sv dv w) : Ps bs w.heap.size tv ts c sv dv w := ⟨h.blk, h.toks.here (Nat.le_refl _), h.sets.here (Nat.le_refl _), h.dats.here (Nat.le_refl _), Nat.le_refl _, h.snew, h.dnew⟩
/-- What a row of the call's own leaves. -/
theorem Ps.own (h : Ps bs B tv ts c sv dv w) {row : Option Nat} (hg : w.grownBy w' row) (hr : ∀ g, row = some g → B ≤ g ∧ bs < g) : Ps bs B tv ts c sv dv w' :=
  ⟨(hg.block bs h.lt (fun e => by have := (hr bs e.symm).2; omega)).trans h.blk, h.toks.own hg (fun g e => (hr g e).1), h.sets.own hg (fun g e => (hr g e).1), h.dats.own hg (fun g e => (hr g e).1), Nat.le_trans h.size hg.size, h.snew, h.dnew⟩
/-- .. and of the worlds. -/
theorem grown_own {wr : World} {n : Nat} {row : Option Nat} (h : w.grownBy wr (some n)) (hg : wr.grownBy w' row) (hr : ∀ g, row = some g → w.heap.size ≤ g) : w.grownBy w' (some n) :=
  ⟨hg.os.trans h.os, hg.tape.trans h.tape, hg.output.trans h.output, Nat.le_trans h.size hg.size, fun k hk hne => (hg.block k (Nat.lt_of_lt_of_le hk h.size) (fun e => by have := hr k e.symm; omega)).trans (h.block k hk hne)⟩
/-- A field is stored. -/
theorem Ps.set_ (h : Ps bs B tv ts c sv dv w) (i : Nat) (v : Value) {tv' sv' dv' : Value} {ts' : List Tok} {c' : Cmd}
    (he : (#[tv, .string ⟨c.tag.toArray⟩, .int .i64 (c.kind : Int), .string ⟨c.mbox.toArray⟩, sv, .int .i64 (c.items : Int), .int .i64 (c.mode : Int), .bool c.silent, .int .u8 (c.flags : Int), dv] : Array Value).setIfInBounds i v = #[tv', .string ⟨c'.tag.toArray⟩, .int .i64 (c'.kind : Int), .string ⟨c'.mbox.toArray⟩, sv', .int .i64 (c'.items : Int), .int .i64 (c'.mode : Int), .bool c'.silent, .int .u8 (c'.flags : Int), dv'])
    (ht : SlX encT 3 bs B w tv' ts') (hs : SlX encR 2 bs B w sv' c'.set) (hd : SlX encB 1 bs B w dv' c'.data) (hsn : ∀ b off s n k, sv' = .slice (some ⟨b, off, s⟩) n k → bs < b) (hdn : ∀ b off s n k, dv' = .slice (some ⟨b, off, s⟩) n k → bs < b) : Ps bs B tv' ts' c' sv' dv' (w.setCell ⟨bs, i, none⟩ v) := by
  have hg := grown_set (World.grownBy.refl w (some bs)) i v
  refine ⟨?_, ht.kept hg, hs.kept hg, hd.kept hg, Nat.le_trans h.size hg.size, hsn, hdn⟩
  rw [Joins.block_setCell h.blk, he]
theorem Ps.cell (h : Ps bs B tv ts c sv dv w) (i : Nat) (v : Value) (he : (#[tv, .string ⟨c.tag.toArray⟩, .int .i64 (c.kind : Int), .string ⟨c.mbox.toArray⟩, sv, .int .i64 (c.items : Int), .int .i64 (c.mode : Int), .bool c.silent, .int .u8 (c.flags : Int), dv] : Array Value)[i]? = some v) : w.cell? ⟨bs, i, none⟩ = some v := by
  rw [cell_of_row w bs i _ _ _ h.blk, he]
end

/-- The panic of 'need'. -/
def syn : List PanicEntry := [{ v := .iface 67 (.int .i64 3), recovered := false }]

set_option maxRecDepth 100000 in
theorem need_t (w : World) : Calls Tryz.prog 27 #[.bool true] w fun e w' => e = .returned (.tuple #[]) ∧ w = w' := by
  go_enter Tryz.func27, Tryz.ntmps27
  go_wp2
  first | go_end0 | refine bodyPost_ret (results_none rfl _ _ _) rfl ?_
  exact ⟨rfl, rfl⟩
set_option maxRecDepth 100000 in
theorem need_f (w : World) : Calls Tryz.prog 27 #[.bool false] w fun e w' => e = .panicked syn ∧ w = w' := by
  go_enter Tryz.func27, Tryz.ntmps27
  go_wp2
  exact ⟨rfl, rfl, rfl⟩

theorem undT : Tryz.prog.underlying 68 = some (.slice (Tryz.prog.elem 68)) := by kernel_rfl
theorem sizeT (w : World) : (sizeOf (Tryz.prog.elem 68)).run Tryz.prog w = .ok 3 w := by kernel_rfl
theorem sliceT1 (b off n c : Nat) (h1 : 1 ≤ n) (W : World) :
    (Instr.slice 68 (.slice (some ⟨b, off, none⟩) n c) (some (.int .i64 1)) none none).run Tryz.prog W = .ok (.slice (if c = 1 then some ⟨b, off, none⟩ else some ⟨b, off + 3, none⟩) (n - 1) (c - 1)) W := by
  rw [run_slice_l W _ _ n c undT .i64 1 (by omega) (by omega), sizeT]
  simp [Result.andThen, sliced, Addr.add]
theorem sliceAtT (x : Value) (lo hi mx : Option Value) (W : World) : (Instr.sliceAt 68 x lo hi mx).run Tryz.prog W = (Instr.slice 68 x lo hi mx).run Tryz.prog W := run_sliceAt_slice W _ _ _ _ _ undT

section
variable {bs B : Nat} {tv sv dv : Value} {ts : List Tok} {c : Cmd} {w w' : World}
/-- The first token's cells. -/
theorem toks_head {t : Tok} {r : List Tok} (h : SlX encT 3 bs B w tv (t :: r)) : ∃ b off n cap, tv = .slice (some ⟨b, off, none⟩) n cap ∧ n = r.length + 1 ∧ n ≤ cap ∧ b ≠ bs ∧ b < w.heap.size ∧
    w.cell? ⟨b, off, none⟩ = some (.int .i64 (t.kind : Int)) ∧ w.cell? ⟨b, off + 1, none⟩ = some (.string ⟨t.text.toArray⟩) ∧
    SlX encT 3 bs B w (.slice (if cap = 1 then some ⟨b, off, none⟩ else some ⟨b, off + 3, none⟩) (n - 1) (cap - 1)) r := by
  obtain ⟨A, cap, rfl, hle, h | ⟨b, off, rfl, hb, hB, hlt, hc⟩⟩ := h
  · cases h
  · have h0 := hc 0 t rfl 0 _ rfl
    have h1 := hc 0 t rfl 1 _ rfl
    refine ⟨b, off, _, cap, rfl, rfl, hle, hb, hlt, by simpa using h0, by simpa using h1, ?_⟩
    rw [List.length_cons] at hle ⊢
    refine ⟨_, _, rfl, by omega, ?_⟩
    rcases r with _ | ⟨s, r⟩
    · exact .inl rfl
    · refine .inr ⟨b, off + 3, ?_, hb, hB, hlt, fun j x hj i u hi => ?_⟩
      · rw [if_neg (by simp at hle; omega)]
      · have := hc (j + 1) x (by simpa using hj) i u hi
        rw [show off + 3 + j * 3 + i = off + (j + 1) * 3 + i by omega]
        exact this
end

set_option maxRecDepth 100000 in
set_option maxHeartbeats 1000000 in
theorem sees_any (bs B k : Nat) (_hk : k ≤ 6) {tv sv dv : Value} {ts : List Tok} {c : Cmd} (w : World) (hf : Fin ts) (h : Ps bs B tv ts c sv dv w) :
    Calls Tryz.prog 63 #[.pointer (some ⟨bs, 0, none⟩), .int .i64 (k : Int)] w fun e w' => e = .returned (.bool (seesT k ts)) ∧ w = w' := by
  rcases ts with _ | ⟨t, r⟩
  · exact absurd rfl hf.ne
  · have ht := hf.kind
    obtain ⟨b, off, n, cap, rfl, hn, hle, hb, hlt, h0, h1, _⟩ := toks_head h.toks
    have c0 := h.cell 0 _ rfl
    have R := Lib.hid (show ((t.kind : Int) == (k : Int)) = seesT k (t :: r) by simp only [seesT]; rw [Bool.eq_iff_iff]; simp; omega)
    clear h hf
    have hn0 : 0 < n := by omega
    clear hn
    generalize seesT k (t :: r) = q at *
    generalize t.kind = tk at *
    generalize (⟨t.text.toArray⟩ : ByteArray) = tx at *
    go_enter Tryz.func63, Tryz.ntmps63
    go_wp2_with fail
    go_ret
    exact ⟨ret_bool R.out, rfl⟩

/-- What 'take' answers. -/
def TPost (bs B k : Nat) (ts : List Tok) (c : Cmd) (sv dv : Value) (w : World) (e : Ending) (w' : World) : Prop :=
  (∃ x r tv, Hid (takeO k ts = some (x, r)) ∧ e = .returned (.string ⟨x.toArray⟩) ∧ Hid (Ps bs B tv r c sv dv w') ∧ Hid (w.grownBy w' (some bs))) ∨
  (Hid (takeO k ts = none) ∧ e = .panicked syn ∧ Hid (w.grownBy w' (some bs)))

set_option maxRecDepth 100000 in
set_option maxHeartbeats 1000000 in
theorem take_any (bs B k : Nat) (hk : k ≤ 6) {tv sv dv : Value} {ts : List Tok} {c : Cmd} (w : World) (hf : Fin ts) (h : Ps bs B tv ts c sv dv w) :
    Calls Tryz.prog 44 #[.pointer (some ⟨bs, 0, none⟩), .int .i64 (k : Int)] w (TPost bs B k ts c sv dv w) := by
  have SE := sees_any bs B k hk w hf h
  rcases ts with _ | ⟨t, r⟩
  · exact absurd rfl hf.ne
  · cases hs : seesT k (t :: r) with
    | false =>
      rw [hs] at SE
      have SE := Lib.hid SE
      have HT := Lib.hid (show takeO k (t :: r) = none by simp [seesT] at hs; simp [takeO, hs])
      have NF := Lib.hid (need_f w)
      clear hs h hf
      go_enter Tryz.func44, Tryz.ntmps44
      go_wp2_with fail
      refine SE.out.mono ?_
      rintro e w1 ⟨rfl, rfl⟩
      go_wp2_with fail
      refine NF.out.mono ?_
      rintro e w1 ⟨rfl, rfl⟩
      exact ⟨rfl, .inr ⟨HT, rfl, Lib.hid (World.grownBy.refl _ _)⟩⟩
    | true =>
      rw [hs] at SE
      have SE := Lib.hid SE
      have HT := Lib.hid (show takeO k (t :: r) = some (t.text, r) by simp [seesT] at hs; simp [takeO, hs])
      have NT := Lib.hid (need_t w)
      obtain ⟨b, off, n, cap, rfl, hn, hle, hb, hlt, h0, h1, hx⟩ := toks_head h.toks
      have c0 := h.cell 0 _ rfl
      have f0 := Joins.unfrozen_of_block h.blk 0
      have hn0 : 0 < n := by omega
      have hsl := fun W => sliceT1 b off n cap (by omega) W
      have hse := fun x lo hi mx W => sliceAtT x lo hi mx W
      have HP := Lib.hid (h.set_ 0 (.slice (if cap = 1 then some ⟨b, off, none⟩ else some ⟨b, off + 3, none⟩) (n - 1) (cap - 1)) (c' := c) (ts' := r) rfl hx h.sets h.dats h.snew h.dnew)
      have HG := Lib.hid (grown_set (World.grownBy.refl w (some bs)) 0 (.slice (if cap = 1 then some ⟨b, off, none⟩ else some ⟨b, off + 3, none⟩) (n - 1) (cap - 1)))
      generalize (if cap = 1 then some ⟨b, off, none⟩ else some ⟨b, off + 3, none⟩ : Option Addr) = A' at *
      clear hs h hf hn hx
      generalize t.kind = tk at *
      generalize htx : (⟨t.text.toArray⟩ : ByteArray) = tx at *
      have HTX := Lib.hid htx
      clear htx
      go_enter Tryz.func44, Tryz.ntmps44
      go_wp2_with fail
      refine SE.out.mono ?_
      rintro e w1 ⟨rfl, rfl⟩
      go_wp2_with fail
      refine NT.out.mono ?_
      rintro e w1 ⟨rfl, rfl⟩
      go_wp2_with fail
      go_ret
      exact .inl ⟨t.text, r, _, HT, by rw [HTX.out]; rfl, HP, HG⟩
theorem take_ok (bs B k : Nat) (hk : k ≤ 6) {tv sv dv : Value} {ts r : List Tok} {x : List UInt8} {c : Cmd} (w : World) (hf : Fin ts) (h : Ps bs B tv ts c sv dv w) (ht : takeO k ts = some (x, r)) :
    Calls Tryz.prog 44 #[.pointer (some ⟨bs, 0, none⟩), .int .i64 (k : Int)] w fun e w' => ∃ tv', e = .returned (.string ⟨x.toArray⟩) ∧ Hid (Ps bs B tv' r c sv dv w') ∧ Hid (w.grownBy w' (some bs)) := by
  refine (take_any bs B k hk w hf h).mono ?_
  rintro e w' (⟨x', r', tv', ho, rfl, hP, hG⟩ | ⟨ho, _, _⟩)
  · have := ho.out
    rw [ht] at this
    simp at this
    obtain ⟨rfl, rfl⟩ := this
    exact ⟨tv', rfl, hP, hG⟩
  · have := ho.out
    rw [ht] at this
    cases this
end Go.Proofs.YthfopimgdikpgaaGreatDoor
