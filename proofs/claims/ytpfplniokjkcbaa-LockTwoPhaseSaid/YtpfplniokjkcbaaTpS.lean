/- LockTwoPhase: where its state lies; a turn. -/
import Derived.Test.YtpfplniokjkcbaaTp14
import Derived.WalkSmall
namespace Go.Proofs.Ytpfplniokjkcbaa
open Go.RowKit

/-- A slice of ints, as a value. -/
structure VI where
  A : Option Addr
  n : Nat
  c : Nat
def encV (x : VI) : List Value := [.slice x.A x.n x.c]
theorem encV_len (x : VI) : (encV x).length = 1 := rfl
theorem flatV_set (vs : List VI) (j : Nat) (x : VI) : (flatL encV vs).set j (.slice x.A x.n x.c) = flatL encV (vs.set j x) := by
  induction vs generalizing j with
  | nil => simp [flatL]
  | cons a vs ih =>
    rcases j with _ | j
    · simp [flatL, encV]
    · have := ih j
      simp [flatL, encV] at this ⊢
      exact this
/-- What lies where: the table g in the box bt; the owners' lists in the box bl: the row Ao of slices vs. -/
structure TPs (B g bt bl co : Nat) (Ao : Option Addr) (vs : List VI) (s : TP) (w0 W : World) : Prop where
  tb : ∃ S, LkT g S s.L s.q W ∧ (∀ j, S j → B ≤ j) ∧ ¬ S bt ∧ ¬ S bl ∧ Out S Ao ∧ ∀ x ∈ vs, Out S x.A
  ht : W.heap[bt]? = some (.cells #[.pointer (some ⟨g, 0, none⟩)] 24)
  hl : W.heap[bl]? = some (.cells #[.slice Ao vs.length co] 53)
  row : W.ownsRow B 26 1 (.slice Ao vs.length co) vs.length (flatL encV vs)
  len : s.ls.length = vs.length
  at_ : ∀ (i : Nat) (x : VI) (l : List Nat), vs[i]? = some x → s.ls[i]? = some l → x.n = l.length ∧ SlAt encI 1 W x.A (asI l)
  cp : ∀ x ∈ vs, x.n ≤ x.c
  apart : ∀ x ∈ vs, ∀ a b, x.A = some a → Ao = some b → a.block ≠ b.block
  inn : ∀ x ∈ vs, ∀ a, x.A = some a → B ≤ a.block ∧ a.block < W.heap.size ∧ a.block ≠ bt ∧ a.block ≠ bl
  bx : bt ≠ bl ∧ (∀ b, Ao = some b → b.block ≠ bt ∧ b.block ≠ bl)
  be : Below B w0 W
  sz : B ≤ W.heap.size
section
variable {B g bt bl co : Nat} {Ao : Option Addr} {vs : List VI} {s : TP} {w0 W W' : World}
theorem TPs.below (h : TPs B g bt bl co Ao vs s w0 W) (hb : Below W.heap.size W W') : TPs B g bt bl co Ao vs s w0 W' := by
  obtain ⟨S, h1, h2⟩ := h.tb
  exact ⟨⟨S, h1.kept (KeptO.of_below (S := fun _ => False) hb) fun _ _ => id, h2⟩, (hb.block _ (Array.getElem?_eq_some_iff.1 h.ht).1).trans h.ht, (hb.block _ (Array.getElem?_eq_some_iff.1 h.hl).1).trans h.hl, own_below h.row hb, h.len, fun i x l hx hl => ⟨(h.at_ i x l hx hl).1, (h.at_ i x l hx hl).2.below hb⟩, h.cp, h.apart, fun x hx a ha => ⟨(h.inn x hx a ha).1, Nat.lt_of_lt_of_le (h.inn x hx a ha).2.1 hb.size, (h.inn x hx a ha).2.2⟩, h.bx, h.be.trans (hb.mono h.sz), Nat.le_trans h.sz hb.size⟩
theorem TPs.draw (h : TPs B g bt bl co Ao vs s w0 W) : TPs B g bt bl co Ao vs s w0 W.drew := h.below (below_drew 1)
theorem TPs.drawN (h : TPs B g bt bl co Ao vs s w0 W) (n : Nat) : TPs B g bt bl co Ao vs s w0 (W.drewN n) := h.below (below_drew n)
theorem TPs.cells (h : TPs B g bt bl co Ao vs s w0 W) : W.cell? ⟨bt, 0, none⟩ = some (.pointer (some ⟨g, 0, none⟩)) ∧ W.cell? ⟨bl, 0, none⟩ = some (.slice Ao vs.length co) := ⟨cell_of_row _ _ 0 _ _ _ h.ht, cell_of_row _ _ 0 _ _ _ h.hl⟩
/-- An owner's list. -/
theorem TPs.list (h : TPs B g bt bl co Ao vs s w0 W) {i : Nat} (hi : i < vs.length) : ∃ bo x l, Ao = some ⟨bo, 0, none⟩ ∧ vs[i]? = some x ∧ s.ls[i]? = some l ∧ x.n = l.length ∧ SlAt encI 1 W x.A (asI l) ∧ W.cell? ⟨bo, i, none⟩ = some (.slice x.A l.length x.c) ∧ W.frozen? ⟨bo, i, none⟩ = false := by
  have hx : vs[i]? = some vs[i] := List.getElem?_eq_getElem hi
  have hi2 : i < s.ls.length := by rw [h.len]; exact hi
  have hl : s.ls[i]? = some s.ls[i] := List.getElem?_eq_getElem hi2
  obtain ⟨h1, h2⟩ := h.at_ i _ _ hx hl
  have hrow := h.row
  rcases h.row.2 with ⟨h3, h4⟩ | ⟨bo, cap, cur, h3, hb, h5, _⟩
  · omega
  · rw [h3] at hrow
    injection h3 with h3
    refine ⟨bo, _, _, h3, hx, hl, h1, h2, ?_, hrow.frozenAt i⟩
    rw [hrow.cellAt i (by omega)]
    have := flatL_at encV_len vs i vs[i] hx 0 _ rfl
    rw [show i * 1 + 0 = i by omega] at this
    rw [this, h1]
/-- Behind a call that writes the table. -/
theorem TPs.tab {S S' : Nat → Prop} {L' : List Int} {q' : Nat} (h : TPs B g bt bl co Ao vs s w0 W) (h2 : ∀ j, S j → B ≤ j) (h3 : ¬ S bt) (h4 : ¬ S bl) (h5 : Out S Ao) (h6 : ∀ x ∈ vs, Out S x.A) (t : LkT g S' L' q' W') (m : More S S' W) (kk : KeptO S W W') :
    TPs B g bt bl co Ao vs ⟨L', s.ls, q'⟩ w0 W' := by
  have hbt := (Array.getElem?_eq_some_iff.1 h.ht).1
  have hbl := (Array.getElem?_eq_some_iff.1 h.hl).1
  have hao : ∀ b, Ao = some b → b.block < W.heap.size := by
    intro b e
    subst e
    rcases h.row.2 with ⟨h3, _⟩ | ⟨bo, cap, cur, h3, hb, k5, _⟩
    · cases h3
    · injection h3 with h3
      injection h3 with h3
      subst h3
      exact (Array.getElem?_eq_some_iff.1 k5).1
  refine ⟨⟨S', t, fun j hj => (m.2 j hj).elim (h2 j) fun e => Nat.le_trans h.sz e, fun e => (m.2 _ e).elim h3 fun e => by omega, fun e => (m.2 _ e).elim h4 fun e => by omega, fun b hb e => (m.2 _ e).elim (h5 b hb) fun e => by have := hao b hb; omega, fun x hx a ha e => (m.2 _ e).elim (h6 x hx a ha) fun e => by have := h.inn x hx a ha; omega⟩, kk.heap h.ht h3, kk.heap h.hl h4, ?_, h.len, fun i x l hx hl => ⟨(h.at_ i x l hx hl).1, (h.at_ i x l hx hl).2.keptO (h6 x (List.mem_of_getElem? hx)) kk⟩, h.cp, h.apart, fun x hx a ha => ⟨(h.inn x hx a ha).1, Nat.lt_of_lt_of_le (h.inn x hx a ha).2.1 kk.size, (h.inn x hx a ha).2.2⟩, h.bx, h.be.trans (kk.below h2 h.sz), Nat.le_trans h.sz kk.size⟩
  refine ⟨h.row.1, ?_⟩
  rcases h.row.2 with e | ⟨bo, cap, cur, e1, hb, e3, e4⟩
  · exact .inl e
  · refine .inr ⟨bo, cap, cur, e1, hb, kk.heap e3 ?_, e4⟩
    injection e1 with e1
    exact h5 _ e1
theorem TPs.rel (h : TPs B g bt bl co Ao vs s w0 W) (o : Int) (ho : -9223372036854775808 ≤ o ∧ o ≤ 9223372036854775807) :
    Calls Try.prog 13 #[.pointer (some ⟨g, 0, none⟩), .int .i64 o] W fun e w' => e = .returned (.int .i64 ((heldL s.L o).length : Nat)) ∧ TPs B g bt bl co Ao vs ⟨relL s.L o, s.ls, s.q⟩ w0 w' := by
  obtain ⟨S, h1, h2, h3, h4, h5, h6⟩ := h.tb
  refine (lkrel_any o ho h1).mono ?_
  rintro e w' ⟨S', rfl, t, m, kk⟩
  exact ⟨rfl, h.tab h2 h3 h4 h5 h6 t m kk⟩
theorem TPs.acq (h : TPs B g bt bl co Ao vs s w0 W) (o k : Int) (ho : -9223372036854775808 ≤ o ∧ o ≤ 9223372036854775807) (hk : -9223372036854775808 ≤ k ∧ k ≤ 9223372036854775807) (hq : s.q ≤ 1000000) (ha : (acqL s.L o k).2 = 0) :
    Calls Try.prog 15 #[.pointer (some ⟨g, 0, none⟩), .int .i64 o, .int .i64 k] W fun e w' => e = .returned (.int .i64 0) ∧ TPs B g bt bl co Ao vs ⟨(acqL s.L o k).1, s.ls, s.q + 1⟩ w0 w' := by
  obtain ⟨S, h1, h2, h3, h4, h5, h6⟩ := h.tb
  refine (lkacq_any o k ho hk hq h1).mono ?_
  rintro e w' ⟨S', rfl, t, m, kk⟩
  rw [if_pos ha] at t
  exact ⟨by rw [ha], h.tab h2 h3 h4 h5 h6 t m kk⟩
theorem TPs.blk (h : TPs B g bt bl co Ao vs s w0 W) (o : Int) (ho : -9223372036854775808 ≤ o ∧ o ≤ 9223372036854775807) (A : Option Addr) (c : Nat) (l : List Nat) (hl : l.length ≤ 1000) (hx : ∀ y ∈ l, y < 12) (hS : SlAt encI 1 W A (asI l)) :
    Calls Try.prog 25 #[.pointer (some ⟨g, 0, none⟩), .int .i64 o, .slice A l.length c] W fun e w' => e = .returned (.bool (blkL s.L o (asI l))) ∧ TPs B g bt bl co Ao vs s w0 w' := by
  obtain ⟨S, h1, -⟩ := h.tb
  have hn : (asI l).length = l.length := List.length_map ..
  have := lkblk_any o ho A c (asI l) (by rw [hn]; exact hl) (fun x hx2 => by
    obtain ⟨y, hy, rfl⟩ := List.mem_map.1 hx2
    have := hx y hy
    omega) hS h1
  rw [hn] at this
  exact this.mono fun _ _ ⟨h2, h3⟩ => ⟨h2, h.below h3⟩
/-- An owner's list cut. -/
theorem TPs.cut {bo i : Nat} {ys : List Nat} {x : VI} {A' : Option Addr} (h : TPs B g bt bl co (some ⟨bo, 0, none⟩) vs s w0 W) (hx : vs[i]? = some x) (hA : ∀ a, A' = some a → ∃ a', x.A = some a' ∧ a'.block = a.block) (hs : SlAt encI 1 W A' (asI ys)) (c' : Nat) (hc : ys.length ≤ c') :
    TPs B g bt bl co (some ⟨bo, 0, none⟩) (vs.set i ⟨A', ys.length, c'⟩) ⟨s.L, s.ls.set i ys, s.q⟩ w0 (W.setCell ⟨bo, i, none⟩ (.slice A' ys.length c')) := by
  obtain ⟨S, h1, h2, h3, h4, h5, h6⟩ := h.tb
  have hxm := List.mem_of_getElem? hx
  have kk : KeptO (fun j => j = bo) W (W.setCell ⟨bo, i, none⟩ (.slice A' ys.length c')) := KeptO.of_grown (grown_setCell W bo i _) fun r e => by injection e with e; exact e.symm
  have hn : (vs.set i ⟨A', ys.length, c'⟩).length = vs.length := List.length_set
  have hbo : bo ≠ bt ∧ bo ≠ bl := h.bx.2 _ rfl
  have hmem : ∀ z ∈ vs.set i ⟨A', ys.length, c'⟩, z ∈ vs ∨ z = ⟨A', ys.length, c'⟩ := fun z hz => List.mem_or_eq_of_mem_set hz
  have hBo : B ≤ bo := by
    rcases h.row.2 with ⟨e, _⟩ | ⟨g', cap, cur, e1, hb, _⟩
    · cases e
    · injection e1 with e1
      injection e1 with e1
      injection e1 with e1
      omega
  refine ⟨⟨S, h1.kept kk fun j hj e => h5 _ rfl (by rw [← e]; exact hj), h2, h3, h4, h5, fun z hz => ?_⟩, kk.heap h.ht (by simpa using hbo.1.symm), by rw [hn]; exact kk.heap h.hl (by simpa using hbo.2.symm), ?_, by rw [hn]; show (s.ls.set i ys).length = _; rw [List.length_set]; exact h.len, ?_, fun z hz => (hmem z hz).elim (h.cp z) fun e => by rw [e]; exact hc, ?_, ?_, h.bx, h.be.trans (kk.below (fun j e => by rw [e]; exact hBo) h.sz), Nat.le_trans h.sz kk.size⟩
  · rcases hmem z hz with e | e
    · exact h6 z e
    · subst e
      intro a ha
      obtain ⟨a', e1, e2⟩ := hA a ha
      rw [← e2]
      exact h6 x hxm a' e1
  · rw [hn, ← flatV_set]
    exact (h.row.stored i (.slice A' ys.length c')).1
  · intro j z l hz hl
    change (s.ls.set i ys)[j]? = some l at hl
    by_cases e : i = j
    · subst e
      have hi : i < vs.length := (List.getElem?_eq_some_iff.1 hx).1
      rw [List.getElem?_set_self hi] at hz
      rw [List.getElem?_set_self (by rw [h.len]; exact hi)] at hl
      obtain rfl := Option.some.inj hz
      obtain rfl := Option.some.inj hl
      refine ⟨rfl, hs.keptO (fun a ha e => ?_) kk⟩
      obtain ⟨a', e1, e2⟩ := hA a ha
      exact h.apart x hxm a' _ e1 rfl (by rw [e2]; exact e)
    · rw [List.getElem?_set_ne e] at hz hl
      obtain ⟨k1, k2⟩ := h.at_ j z l hz hl
      exact ⟨k1, k2.keptO (fun a ha e => h.apart z (List.mem_of_getElem? hz) a _ ha rfl e) kk⟩
  · intro z hz a b ha hb
    rcases hmem z hz with e | e
    · exact h.apart z e a b ha hb
    · subst e
      obtain ⟨a', e1, e2⟩ := hA a ha
      rw [← e2]
      exact h.apart x hxm a' b e1 hb
  · intro z hz a ha
    rcases hmem z hz with e | e
    · obtain ⟨k1, k2, k3⟩ := h.inn z e a ha
      exact ⟨k1, Nat.lt_of_lt_of_le k2 kk.size, k3⟩
    · subst e
      obtain ⟨a', e1, e2⟩ := hA a ha
      obtain ⟨k1, k2, k3⟩ := h.inn x hxm a' e1
      rw [← e2]
      exact ⟨k1, Nat.lt_of_lt_of_le k2 kk.size, k3⟩
end
theorem asI_tail {w : World} {b off y : Nat} {ys : List Nat} (h : SlAt encI 1 w (some ⟨b, off, none⟩) (asI (y :: ys))) : SlAt encI 1 w (some ⟨b, off + 1, none⟩) (asI ys) ∧ w.cell? ⟨b, off, none⟩ = some (.int .i64 (y : Int)) := by
  rcases h with h | ⟨b', off', hA, hlt, hc⟩
  · simp [asI] at h
  · injection hA with hA
    injection hA with e1 e2
    subst e1; subst e2
    refine ⟨.inr ⟨b, off + 1, rfl, hlt, fun j x hj i v hi => ?_⟩, by simpa using hc 0 (y : Int) rfl 0 _ rfl⟩
    have := hc (j + 1) x (by simpa [asI] using hj) i v hi
    rw [show off + (j + 1) * 1 + i = off + 1 + j * 1 + i by omega] at this
    exact this
theorem undI : Try.prog.underlying 26 = some (.slice (Try.prog.elem 26)) := by kernel_rfl
theorem sizeI (w : World) : (sizeOf (Try.prog.elem 26)).run Try.prog w = .ok 1 w := by kernel_rfl
theorem sliceI1 (b off n c : Nat) (h1 : 1 ≤ n) (W : World) :
    (Instr.slice 26 (.slice (some ⟨b, off, none⟩) n c) (some (.int .i64 1)) none none).run Try.prog W = .ok (.slice (if c = 1 then some ⟨b, off, none⟩ else some ⟨b, off + 1, none⟩) (n - 1) (c - 1)) W := by
  rw [run_slice_l W _ _ n c undI .i64 1 (by omega) (by omega), sizeI]
  simp [Result.andThen, sliced, Addr.add]
theorem sliceAtI (x : Value) (lo hi mx : Option Value) (W : World) : (Instr.sliceAt 26 x lo hi mx).run Try.prog W = (Instr.slice 26 x lo hi mx).run Try.prog W := run_sliceAt_slice W _ _ _ _ _ undI
theorem len_le_sum {l : List Nat} : ∀ {ls : List (List Nat)}, l ∈ ls → l.length ≤ sumLen ls
  | a :: ls, h => by
    rcases List.mem_cons.1 h with e | e
    · subst e
      simp [sumLen]
    · have := len_le_sum e
      simp [sumLen] at this ⊢
      omega
theorem TPs.five {B g bt bl co i bo b off y : Nat} {ys : List Nat} {vs : List VI} {x : VI} {s : TP} {w0 W : World} (h : TPs B g bt bl co (some ⟨bo, 0, none⟩) vs s w0 W) (hx : vs[i]? = some x) (hl : s.ls[i]? = some (y :: ys)) (hA : x.A = some ⟨b, off, none⟩) :
    W.cell? ⟨bt, 0, none⟩ = some (.pointer (some ⟨g, 0, none⟩)) ∧ W.cell? ⟨bl, 0, none⟩ = some (.slice (some ⟨bo, 0, none⟩) vs.length co) ∧ W.cell? ⟨bo, i, none⟩ = some (.slice (some ⟨b, off, none⟩) (y :: ys).length x.c) ∧ W.cell? ⟨b, off, none⟩ = some (.int .i64 (y : Int)) ∧ W.frozen? ⟨bo, i, none⟩ = false := by
  obtain ⟨bo', x', l', e1, e2, e3, e4, e5, e6, e7⟩ := h.list (i := i) (List.getElem?_eq_some_iff.1 hx).1
  rw [hx] at e2
  obtain rfl := Option.some.inj e2
  rw [hl] at e3
  obtain rfl := Option.some.inj e3
  injection e1 with e1
  injection e1 with e1
  subst e1
  rw [hA] at e5 e6
  exact ⟨h.cells.1, h.cells.2, e6, (asI_tail e5).2, e7⟩
set_option maxRecDepth 100000 in
set_option maxHeartbeats 4000000 in
theorem tstep_any {B g bt bl co n tot : Nat} {Ao : Option Addr} {vs : List VI} {s : TP} {w0 : World} (i : Nat) (hi : i < n) (hn : n ≤ 10) (ht : tot ≤ 1000) (hI : TInv n tot s) (w : World) (h : TPs B g bt bl co Ao vs s w0 w) :
    Calls Try.prog 29 #[.int .i64 (i : Int), .pointer (some ⟨bl, 0, none⟩), .pointer (some ⟨bt, 0, none⟩)] w fun e w' => e = .returned (.bool true) ∧ ∃ vs', vs'.length = vs.length ∧ TPs B g bt bl co Ao vs' (tstep s i) w0 w' := by
  have hvs : vs.length = n := by rw [← h.len]; exact hI.len
  obtain ⟨bo, x, l, rfl, hx, hl, hxn, hsl, c0, f0⟩ := h.list (i := i) (by omega)
  obtain ⟨k0, k1⟩ := h.cells
  have i0 : (0 : Int) ≤ (i : Int) := by omega
  have i1 : (i : Int) < (vs.length : Int) := by omega
  have HT := Lib.hid h
  cases l with
  | nil =>
    have C1 := Lib.hid (h.rel (i : Int) (by omega))
    have E := Lib.hid (tstep_nil hl)
    clear h hI hsl hx hl HT hvs hi ht
    go_enter Try.func29, Try.ntmps29
    go_wp2_with fail
    refine C1.out.mono ?_
    rintro e w1 ⟨rfl, h1⟩
    have H1 := Lib.hid h1
    clear h1 C1
    go_wp2_with fail
    go_ret
    exact ⟨rfl, vs, rfl, by rw [E.out]; exact H1.out⟩
  | cons y ys =>
    obtain ⟨b, off, hA⟩ : ∃ b off, x.A = some ⟨b, off, none⟩ := by
      rcases hsl with e | ⟨b, off, e, _⟩
      · simp [asI] at e
      · exact ⟨b, off, e⟩
    have hcp := h.cp x (List.mem_of_getElem? hx)
    have hlen := (hI.asc i _ hl).2
    have hl12 : (y :: ys).length ≤ 1000 := by
      have h1 := hI.cnt
      have h2 := len_le_sum (List.mem_of_getElem? hl)
      omega
    have hq : s.q ≤ 1000000 := by
      have h1 := hI.cnt
      omega
    have BL := Lib.hid (fun W (hW : TPs B g bt bl co (some ⟨bo, 0, none⟩) vs s w0 W) (hs : SlAt encI 1 W (some ⟨b, off, none⟩) (asI (y :: ys))) => hW.blk (i : Int) (by omega) (some ⟨b, off, none⟩) x.c (y :: ys) hl12 hlen hs)
    have KP := Lib.hid (fun W (hW : TPs B g bt bl co (some ⟨bo, 0, none⟩) vs s w0 W) => (show W.cell? ⟨bt, 0, none⟩ = some (.pointer (some ⟨g, 0, none⟩)) ∧ W.cell? ⟨bl, 0, none⟩ = some (.slice (some ⟨bo, 0, none⟩) vs.length co) ∧ W.cell? ⟨bo, i, none⟩ = some (.slice (some ⟨b, off, none⟩) (y :: ys).length x.c) ∧ SlAt encI 1 W (some ⟨b, off, none⟩) (asI (y :: ys)) ∧ TPs B g bt bl co (some ⟨bo, 0, none⟩) vs s w0 W from by
      obtain ⟨bo', x', l', e1, e2, e3, e4, e5, e6, -⟩ := hW.list (i := i) (by omega)
      rw [hx] at e2
      obtain rfl := Option.some.inj e2
      rw [hl] at e3
      obtain rfl := Option.some.inj e3
      injection e1 with e1
      injection e1 with e1
      subst e1
      rw [hA] at e5 e6
      exact ⟨hW.cells.1, hW.cells.2, e6, e5, hW⟩))
    rw [hA] at c0 hsl
    by_cases hb : 0 ≤ ownL s.L (y : Int)
    · have E := Lib.hid (hI.step_wait hl hb)
      have hbl : blkL s.L (i : Int) (asI (y :: ys)) = true := by rw [hI.blk hl]; exact decide_eq_true hb
      rw [hbl] at BL
      clear hbl hb hI hx hl hlen hl12 hA hvs hi hcp hxn HT
      have hm : ((y :: ys).length : Int) ≠ 0 := by simp; omega
      generalize (y :: ys).length = m at *
      generalize asI (y :: ys) = asl at *
      go_enter Try.func29, Try.ntmps29
      go_upto_region 4 with (fail)
      go_region_held3 (fun W => W.cell? ⟨bt, 0, none⟩ = some (.pointer (some ⟨g, 0, none⟩)) ∧ W.cell? ⟨bl, 0, none⟩ = some (.slice (some ⟨bo, 0, none⟩) vs.length co) ∧ W.cell? ⟨bo, i, none⟩ = some (.slice (some ⟨b, off, none⟩) m x.c) ∧ SlAt encI 1 W (some ⟨b, off, none⟩) asl ∧ TPs B g bt bl co (some ⟨bo, 0, none⟩) vs s w0 W)
        ((refine KP.out _ ?_; (focus ((repeat (first | assumption | refine TPs.drawN ?_ _ | refine TPs.draw ?_)); done))))
        (first
        | (go_at_call 25; refine (BL.out _ ?_ ?_).mono ?_; (focus ((repeat (first | assumption | refine TPs.drawN ?_ _ | refine TPs.draw ?_)); done)); (focus (refine (KP.out _ ?_).2.2.2.1; (repeat (first | assumption | refine TPs.drawN ?_ _ | refine TPs.draw ?_)); done)); rintro e w5 ⟨rfl, h5⟩))
      all_goals
        go_wp2_with fail
        go_ret
        exact ⟨rfl, vs, rfl, by rw [E.out]; exact h5⟩
    · have hb' : ownL s.L (y : Int) < 0 := by omega
      have ha := hI.acq hl hb'
      have E := Lib.hid (hI.step_go hl hb')
      have hbl : blkL s.L (i : Int) (asI (y :: ys)) = false := by rw [hI.blk hl]; exact decide_eq_false hb
      rw [hbl] at BL
      have hy := hlen y (by simp)
      have AQ := Lib.hid (fun W (hW : TPs B g bt bl co (some ⟨bo, 0, none⟩) vs s w0 W) => hW.acq (i : Int) (y : Int) (by omega) (by omega) hq (by rw [ha]))
      rw [ha] at AQ
      have K2 := Lib.hid (fun W (hW : TPs B g bt bl co (some ⟨bo, 0, none⟩) vs ⟨s.L.set y (i : Int), s.ls, s.q + 1⟩ w0 W) => hW.five hx hl hA)
      have K1 := Lib.hid (fun W (hW : TPs B g bt bl co (some ⟨bo, 0, none⟩) vs s w0 W) => hW.five hx hl hA)
      have CT := Lib.hid (fun W (hW : TPs B g bt bl co (some ⟨bo, 0, none⟩) vs ⟨s.L.set y (i : Int), s.ls, s.q + 1⟩ w0 W) => hW.cut (i := i) (ys := ys) (A' := if x.c = 1 then some ⟨b, off, none⟩ else some ⟨b, off + 1, none⟩) hx (fun a e => ⟨_, hA, by split at e <;> (injection e with e; rw [← e])⟩) (by
        have := (hW.at_ i x _ hx hl).2
        rw [hA] at this
        split
        · next e =>
          rw [hxn] at hcp
          have : ys = [] := List.eq_nil_of_length_eq_zero (by simp at hcp; omega)
          subst this
          exact .inl rfl
        · exact (asI_tail this).1) (x.c - 1) (by rw [hxn] at hcp; simp at hcp; omega))
      rw [← E.out] at *
      have hm : ((y :: ys).length : Int) ≠ 0 := by simp; omega
      have hm1 : (y :: ys).length = ys.length + 1 := rfl
      have hc1 : ys.length + 1 ≤ x.c := by rw [hxn] at hcp; simpa using hcp
      clear hbl hb hI hx hl hlen hl12 hA hvs hi hcp hxn HT ha hb' hy hq ht
      generalize tstep s i = s3 at *
      have HSL := Lib.hid (fun W (hW : TPs B g bt bl co (some ⟨bo, 0, none⟩) vs s w0 W) => (KP.out W hW).2.2.2.1)
      generalize asI (y :: ys) = asl at *
      generalize hs2 : TP.mk (s.L.set y (i : Int)) s.ls (s.q + 1) = s2 at *
      clear hs2 E KP hsl
      have hml : ys.length + 1 = (y :: ys).length := rfl
      clear hm1
      generalize (y :: ys).length = mm at *
      generalize ys.length = m at *
      subst hml
      have j1 : (1 : Int) ≤ ((m + 1 : Nat) : Int) := by omega
      have j2 : ((m + 1 : Nat) : Int) ≤ (x.c : Int) := by omega
      have j3 : (1 : Int) ≤ (x.c : Int) := by omega
      generalize x.c = xc at *
      have j4 : (m : Int) + 1 ≤ (xc : Int) := by omega
      have j5 : (0 : Int) ≤ (m : Int) := by omega
      have hsr := fun W => sliceI1 b off (m + 1) xc (by omega) W
      have hse := fun x lo hi mx W => sliceAtI x lo hi mx W
      rw [Nat.add_sub_cancel] at hsr
      generalize (if xc = 1 then some ⟨b, off, none⟩ else some ⟨b, off + 1, none⟩ : Option Addr) = A' at *
      obtain ⟨k2, k3, k4, k5, -⟩ := K1.out _ h
      go_enter Try.func29, Try.ntmps29
      go_upto_region 4 with (fail)
      go_region_held3 (fun W => W.cell? ⟨bt, 0, none⟩ = some (.pointer (some ⟨g, 0, none⟩)) ∧ W.cell? ⟨bl, 0, none⟩ = some (.slice (some ⟨bo, 0, none⟩) vs.length co) ∧ W.cell? ⟨bo, i, none⟩ = some (.slice (some ⟨b, off, none⟩) (m + 1) xc) ∧ W.cell? ⟨b, off, none⟩ = some (.int .i64 (y : Int)) ∧ W.frozen? ⟨bo, i, none⟩ = false)
        ((refine K1.out _ ?_; (focus ((repeat (first | assumption | refine TPs.drawN ?_ _ | refine TPs.draw ?_)); done))))
        (first
        | (go_at_call 25; refine (BL.out _ ?_ ?_).mono ?_; (focus ((repeat (first | assumption | refine TPs.drawN ?_ _ | refine TPs.draw ?_)); done)); (focus (refine HSL.out _ ?_; (repeat (first | assumption | refine TPs.drawN ?_ _ | refine TPs.draw ?_)); done)); rintro e w5 ⟨rfl, h5⟩))
      all_goals
        obtain ⟨k2, k3, k4, k5, -⟩ := K1.out _ h5
        go_upto_region 6 with (fail)
        go_region_held3 (fun W => W.cell? ⟨bt, 0, none⟩ = some (.pointer (some ⟨g, 0, none⟩)) ∧ W.cell? ⟨bl, 0, none⟩ = some (.slice (some ⟨bo, 0, none⟩) vs.length co) ∧ W.cell? ⟨bo, i, none⟩ = some (.slice (some ⟨b, off, none⟩) (m + 1) xc) ∧ W.cell? ⟨b, off, none⟩ = some (.int .i64 (y : Int)) ∧ W.frozen? ⟨bo, i, none⟩ = false)
          ((first | (refine K1.out _ ?_; (focus ((repeat (first | assumption | refine TPs.drawN ?_ _ | refine TPs.draw ?_)); done))) | (refine K2.out _ ?_; (focus ((repeat (first | assumption | refine TPs.drawN ?_ _ | refine TPs.draw ?_)); done)))))
          (first
          | (go_at_call 15; refine (AQ.out _ ?_).mono ?_; (focus ((repeat (first | assumption | refine TPs.drawN ?_ _ | refine TPs.draw ?_)); done)); rintro e w6 ⟨rfl, h6⟩))
      all_goals
        obtain ⟨q2, q3, q4, q5, q6⟩ := K2.out _ h6
        have CF := Lib.hid (CT.out _ h6).draw
        clear CT K1 K2 AQ BL HSL h h5 k2 k3 k4 k5 c0 k0 k1 f0
        go_upto_region 8 with (fail)
        go_region_with fail
        all_goals
          go_wp2_with fail
          go_ret
          exact ⟨rfl, _, List.length_set, CF.out⟩
end Go.Proofs.Ytpfplniokjkcbaa
