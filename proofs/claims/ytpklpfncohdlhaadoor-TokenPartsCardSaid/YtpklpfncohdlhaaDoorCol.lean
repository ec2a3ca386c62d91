/- quote: the collector: what its closure owns; one call of it. -/
import Derived.Test.YtpklpfncohdlhaaDoorBy
import Derived.Deep.RegionLaw
import Derived.Laws.CopyRow
import Derived.Laws.CopyOwn
import Derived.IntWalk
import Derived.Lib.SmallJoins
namespace Go.Proofs.YtpklpfncohdlhaaDoor
open Go.RowKit

/-- The cells of bytes. -/
def cellsB (l : List UInt8) : List Value := l.map fun c => Value.int .u8 (c.toNat : Int)
theorem cellsB_len (l : List UInt8) : (cellsB l).length = l.length := by simp [cellsB]
theorem cellsB_append (a b : List UInt8) : cellsB (a ++ b) = cellsB a ++ cellsB b := by simp [cellsB]

/-- Array g, the count's box bu, the slice's box ba: what a collector of so many places has collected. -/
structure Col (B g bu ba size : Nat) (l : List UInt8) (w : World) : Prop where
  bg : B ≤ g
  bbu : B ≤ bu
  bba : B ≤ ba
  gu : g ≠ bu
  ga : g ≠ ba
  ua : bu ≠ ba
  row : ∃ tail : List Value, w.heap[g]? = some (.cells (cellsB l ++ tail).toArray 5 (0, 0)) ∧ l.length + tail.length = size
  used : w.heap[bu]? = some (.cells #[.int .i64 (l.length : Int)] 3 (0, 0))
  all : w.heap[ba]? = some (.cells #[.slice (some ⟨g, 0, none⟩) size size] 22 (0, 0))

theorem Col.below {B g bu ba size : Nat} {l : List UInt8} {w w' : World} (h : Col B g bu ba size l w) (hb : Below w.heap.size w w') : Col B g bu ba size l w' := by
  obtain ⟨h1, h2, h3, h4, h5, h6, ⟨t, h7, h7'⟩, h8, h9⟩ := h
  exact ⟨h1, h2, h3, h4, h5, h6, ⟨t, (hb.block g (Array.getElem?_eq_some_iff.1 h7).1).trans h7, h7'⟩, (hb.block bu (Array.getElem?_eq_some_iff.1 h8).1).trans h8, (hb.block ba (Array.getElem?_eq_some_iff.1 h9).1).trans h9⟩

theorem infoB : (Tryd.prog.info? 5).map (fun i => (i.zero, i.size, i.bytes)) = some (some (.int .u8 0), 1, 1) := by kernel_rfl

/-- copy into a row that is known whole, as a step of a region that draws: the row behind it, all else as it was. -/
theorem step_copy_col {P : Program} {ops : Array Oper} {o : Oper} {a : Act} {w : World} {K : Act → World → Prop} {Q : Exit → Act → World → Prop} {E : Prop} (hgd : o.guard = none) (d s : Operand) (dT sT : TypeId)
    (ho : o.op = .call { callee := .builtin .copy, args := #[d, s], argTypes := #[dT, sT] }) (elem : TypeId) (hu : P.underlying dT = some (.slice elem)) (hsz : (P.info? elem).map (·.size) = some 1)
    (dp sp : Option Addr) (dLen dCap sLen sCap : Nat) (hd : a.eval d = .slice dp dLen dCap) (hs : a.eval s = .slice sp sLen sCap)
    (g off : Nat) (cur : List Value) (t : TypeId) (hg : w.heap[g]? = some (.cells cur.toArray t (0, 0))) (cs : List Value) (m : Nat) (hm : cs.length = m) (hn : cs.length = Nat.min sLen dLen)
    (hpos : 0 < cs.length → dp = some ⟨g, off, none⟩ ∧ ∃ ad, sp = some ad ∧ ∀ j v, cs[j]? = some v → w.cell? (ad.add j) = some v)
    (hfit : off + cs.length ≤ cur.length) (h1 : ∀ v ∈ cs, v.oneCell' = true)
    (h : ∀ w', Hid (w'.heap[g]? = some (.cells (splice cur off cs).toArray t (0, 0))) → w.grownBy w' (some g) → K (a.put o.dst (.int .i64 (m : Int))) w') :
    if Region.wanted o (yielded ops a.tmps) = true then Oper.wp P o a w K Q else E := by
  subst hm
  have hw : Region.wanted o (yielded ops a.tmps) = true := by simp [Region.wanted, hgd]
  rw [if_pos hw]
  by_cases h0 : cs.length = 0
  · obtain rfl : cs = [] := List.eq_nil_of_length_eq_zero h0
    have hrun := run_copy_none (P := P) w dT sT o.type elem dp sp dLen dCap sLen sCap hu hsz (by simpa using hn.symm)
    unfold Oper.wp
    simp [execOp, ho, resolve, invoke, builtin, hd, hs, hrun, Result.andThen]
    exact h w (show _ = _ by simpa [splice] using hg) (World.grownBy.refl w _)
  · obtain ⟨rfl, ad, rfl, hsrc⟩ := hpos (by omega)
    have hrun := run_copy_row (P := P) w dT sT o.type elem g off dLen dCap ad sLen sCap cur.toArray t cs hu hsz hg hn hsrc (by simpa using hfit) h1
    unfold Oper.wp
    simp [execOp, ho, resolve, invoke, builtin, hd, hs, hrun, Result.andThen]
    refine h _ (show _ = _ by simpa [splice] using setRow_heap w g _ _ t _ hg) ⟨rfl, rfl, rfl, by simp [World.setRow], fun k hk hne => setRow_other w g k _ (fun e => hne (by rw [e]))⟩

theorem splice_end (l p : List UInt8) (tail : List Value) : splice (cellsB l ++ tail) l.length (cellsB p) = cellsB (l ++ p) ++ tail.drop p.length := by
  unfold splice
  have e1 : (cellsB l ++ tail).take l.length = cellsB l := by rw [← cellsB_len l, List.take_left']; rfl
  have e2 : (cellsB l ++ tail).drop (l.length + (cellsB p).length) = tail.drop p.length := by
    rw [cellsB_len, ← cellsB_len l, List.drop_append]
    simp
  rw [e1, e2, cellsB_append, List.append_assoc]

theorem oneB (l : List UInt8) : ∀ v ∈ cellsB l, v.oneCell' = true := by
  intro v hv
  obtain ⟨c, _, rfl⟩ := List.mem_map.1 hv
  rfl
theorem ByAt.cellsAt {B c : Nat} {w W : World} {A : Option Addr} {p : List UInt8} (h : ByAt B w A c p) (hp : 0 < p.length) (hW : W.heap = w.heap) : ∃ ad, A = some ad ∧ ∀ j v, (cellsB p)[j]? = some v → W.cell? (ad.add j) = some v := by
  rcases h.lies with rfl | ⟨b, off, rfl, _, _, hc⟩
  · simp at hp
  · refine ⟨_, rfl, fun j v hj => ?_⟩
    have hlt : j < p.length := by
      have := (List.getElem?_eq_some_iff.1 hj).1
      rwa [cellsB_len] at this
    have e : (cellsB p)[j]? = some (.int .u8 (p[j].toNat : Int)) := by simp [cellsB, hlt]
    rw [e] at hj
    rw [Addr.add_lit, ← Option.some.inj hj, ← hc j hlt]
    unfold World.cell?
    rw [hW]
theorem hposB {B c n g size : Nat} {w W : World} {A : Option Addr} {l p : List UInt8} {tail : List Value} (h : ByAt B w A c p) (hl : l.length + tail.length = size) (hn : p.length = n) (hfit : l.length + n ≤ size) (hW : W.heap = w.heap) :
    0 < (cellsB p).length → offA (some ⟨g, 0, none⟩) size l.length = some ⟨g, l.length, none⟩ ∧ ∃ ad, A = some ad ∧ ∀ j v, (cellsB p)[j]? = some v → W.cell? (ad.add j) = some v := fun h0 => by
  rw [cellsB_len] at h0
  refine ⟨?_, h.cellsAt h0 hW⟩
  unfold offA
  rw [if_neg (by omega)]
  simp only [Option.map_some, Addr.add_lit, Nat.zero_add, Nat.mul_one]

theorem col_end {B g bu ba size n : Nat} {l p : List UInt8} {w w' : World} {tail : List Value} (bg : B ≤ g) (bbu : B ≤ bu) (bba : B ≤ ba) (gu : g ≠ bu) (ga : g ≠ ba) (ua : bu ≠ ba) (hl : l.length + tail.length = size) (hn : p.length = n) (hfit : l.length + n ≤ size)
    (R : w'.heap[g]? = some (.cells (splice (cellsB l ++ tail) l.length (cellsB p)).toArray 5 (0, 0))) (K1 : w'.heap[bu]? = some (.cells #[.int .i64 (l.length : Int)] 3 (0, 0))) (K2 : w'.heap[ba]? = some (.cells #[.slice (some ⟨g, 0, none⟩) size size] 22 (0, 0))) (G : w.drew.grownBy w' (some g)) (hgw : g < w.heap.size) :
    Col B g bu ba size (l ++ p) (w'.setCell ⟨bu, 0, none⟩ (.int .i64 ((l.length : Int) + (n : Int)))) ∧ Below B w (w'.setCell ⟨bu, 0, none⟩ (.int .i64 ((l.length : Int) + (n : Int)))) := by
  rw [splice_end] at R
  have other : ∀ k, k ≠ bu → (w'.setCell ⟨bu, 0, none⟩ (.int .i64 ((l.length : Int) + (n : Int)))).heap[k]? = w'.heap[k]? := fun k hk => Below.heap_setCell _ _ _ k hk
  refine ⟨⟨bg, bbu, bba, gu, ga, ua, ⟨tail.drop p.length, (other g gu).trans R, by rw [List.length_append, List.length_drop]; omega⟩, ?_, (other ba (Ne.symm ua)).trans K2⟩, ?_⟩
  · rw [Joins.block_setCell K1]
    simp [hn]
  · have h1 : Below B w w' := (Below.refl B w).drew.grown G (by show B ≤ w.heap.size; omega) (fun k e => by cases e; exact bg)
    exact h1.setCell (p := ⟨bu, 0, none⟩) bbu _

set_option maxRecDepth 100000 in
set_option maxHeartbeats 1000000 in
theorem put_any (B g bu ba size : Nat) (l p : List UInt8) (B' : Nat) (A : Option Addr) (c n : Nat) (hn : p.length = n) (hfit : l.length + n ≤ size) (hsz : size ≤ 1000000000) (w : World) (hC : Col B g bu ba size l w) (hP : ByAt B' w A c p) :
    Calls Tryd.prog 66 #[.slice A n c, .pointer (some ⟨bu, 0, none⟩), .pointer (some ⟨ba, 0, none⟩)] w fun e w' =>
      e = .returned (.slice (some ⟨g, 0, none⟩) (l.length + n) size) ∧ Col B g bu ba size (l ++ p) w' ∧ Below B w w' := by
  obtain ⟨bg, bbu, bba, gu, ga, ua, ⟨tail, hrow, hlen⟩, hu, ha⟩ := hC
  have c1 : w.cell? ⟨bu, 0, none⟩ = some (.int .i64 (l.length : Int)) := cell_of_row w bu 0 _ _ _ hu
  have c2 : w.cell? ⟨ba, 0, none⟩ = some (.slice (some ⟨g, 0, none⟩) size size) := cell_of_row w ba 0 _ _ _ ha
  have hs1 := fun W => slice_l (some ⟨g, 0, none⟩) size size l.length (by omega) W
  have hs2 : ∀ W : World, (Instr.slice 22 (.slice (some ⟨g, 0, none⟩) size size) none (some (.int .i64 ((l.length : Int) + (n : Int)))) none).run Tryd.prog W = .ok (.slice (some ⟨g, 0, none⟩) (l.length + n) size) W := fun W => by
    have := slice_h (some ⟨g, 0, none⟩) size size (l.length + n) (by omega) W
    rwa [Int.natCast_add] at this
  have hse := fun x lo hi mx W => sliceAt_eq x lo hi mx W
  have HR := Lib.hid hrow
  have HU := Lib.hid hu
  have HA := Lib.hid ha
  have HN := Lib.hid hn
  have HL := Lib.hid hlen
  have HP := Lib.hid hP
  have H1 := Lib.hid (show (cellsB p).length = Nat.min n (size - l.length) by rw [cellsB_len, hn]; exact (Nat.min_eq_left (by omega)).symm)
  have H2 := Lib.hid (show l.length + (cellsB p).length ≤ (cellsB l ++ tail).length by rw [List.length_append, cellsB_len, cellsB_len, hn]; omega)
  clear hrow hu ha hn hlen hP
  go_enter Tryd.func66, Tryd.ntmps66
  have hua : ba ≠ bu := Ne.symm ua
  have KF : ∀ (W w' : World), W.heap = w.heap → W.grownBy w' (some g) → w'.heap[bu]? = some (.cells #[.int .i64 (l.length : Int)] 3 (0, 0)) ∧ w'.heap[ba]? = some (.cells #[.slice (some ⟨g, 0, none⟩) size size] 22 (0, 0)) := fun W w' e G => by
    refine ⟨(G.block bu ?_ (fun e => gu (Option.some.inj e).symm)).trans (e ▸ HU.out), (G.block ba ?_ (fun e => ga (Option.some.inj e).symm)).trans (e ▸ HA.out)⟩
    · rw [e]; exact (Array.getElem?_eq_some_iff.1 HU.out).1
    · rw [e]; exact (Array.getElem?_eq_some_iff.1 HA.out).1
  have KF := Lib.hid KF
  go_wp2_with fail
  have HSZ := Lib.hid (show (Tryd.prog.info? 5).map (·.size) = some 1 by kernel_rfl)
  have H3 := Lib.hid (show (cellsB p).length = n by rw [cellsB_len]; exact HN.out)
  have HR2 := Lib.hid (show w.drew.heap[g]? = some (.cells (cellsB l ++ tail).toArray 5 (0, 0)) from HR.out)
  have HPOS := Lib.hid (hposB (g := g) (w := w) (W := w.drew) (A := A) (l := l) (p := p) HP.out HL.out HN.out hfit rfl)
  have KF := Lib.hid (fun (w' : World) (G : w.drew.grownBy w' (some g)) => KF.out w.drew w' rfl G)
  go_region_law (refine step_copy_col rfl (.tmp 8) (.tmp 9) 22 22 rfl 5 Tryd.underlying22 HSZ.out (offA (some ⟨g, 0, none⟩) size l.length) A (size - l.length) (size - l.length) n c rfl rfl g l.length (cellsB l ++ tail) 5 HR2.out (cellsB p) n H3.out H1.out HPOS.out H2.out (oneB p) ?_; intro w' R2 G2; have K2 := Lib.hid (KF.out w' G2); have d1 := cell_of_row w' bu 0 _ _ _ K2.out.1; have d2 := cell_of_row w' ba 0 _ _ _ K2.out.2; have f1 := Joins.unfrozen_of_block K2.out.1 0)
  all_goals
    have hE := Lib.hid (col_end (p := p) bg bbu bba gu ga ua HL.out HN.out hfit R2.out K2.out.1 K2.out.2 G2 (Array.getElem?_eq_some_iff.1 HR.out).1)
    clear R2 G2 K2 KF HPOS HR2 HP HR HU HA H1 H2 H3
    go_wp2_with fail
    go_ret
    exact ⟨rfl, hE.out⟩

/-- What a collector has collected reads. -/
theorem Col.read {B g bu ba size : Nat} {l : List UInt8} {w : World} (h : Col B g bu ba size l w) : ByAt w.heap.size w (some ⟨g, 0, none⟩) size l := by
  obtain ⟨tail, hr, hl⟩ := h.row
  refine ⟨by omega, .inr ⟨g, 0, rfl, (Array.getElem?_eq_some_iff.1 hr).1, (Array.getElem?_eq_some_iff.1 hr).1, fun j hj => ?_⟩⟩
  rw [Nat.zero_add, cell_of_row w g j _ _ _ hr]
  simp only [List.getElem?_toArray]
  rw [List.getElem?_append_left (by rw [cellsB_len]; exact hj)]
  simp [cellsB, hj]
theorem Col.own {B g bu ba size : Nat} {l : List UInt8} {w : World} (h : Col B g bu ba size l w) (hs : size ≤ 1000000000) : w.ownsRow B 5 1 (.slice (some ⟨g, 0, none⟩) l.length size) l.length (flatL encB l) := by
  obtain ⟨tail, hr, hl⟩ := h.row
  have e : flatL encB l = cellsB l := flatB l
  refine ⟨by rw [e, cellsB_len, Nat.mul_one], .inr ⟨g, size, _, rfl, h.bg, hr, by omega, by unfold maxLen; omega, ?_, ?_⟩⟩
  · simp [cellsB_len]; omega
  · rw [e]
    simp [← cellsB_len l]
theorem put_at (B g bu ba size : Nat) (l p : List UInt8) (B' : Nat) (A : Option Addr) (c n m : Nat) (hn : p.length = n) (hm : l.length + n = m) (hfit : m ≤ size) (hsz : size ≤ 1000000000) (w : World) (hC : Col B g bu ba size l w) (hP : ByAt B' w A c p) :
    Calls Tryd.prog 66 #[.slice A n c, .pointer (some ⟨bu, 0, none⟩), .pointer (some ⟨ba, 0, none⟩)] w fun e w' =>
      e = .returned (.slice (some ⟨g, 0, none⟩) m size) ∧ Hid (Col B g bu ba size (l ++ p) w') ∧ Below B w w' := by
  subst hm
  exact put_any B g bu ba size l p B' A c n hn hfit hsz w hC hP
/-- One byte, laid for a call. -/
theorem byAt_one (w : World) (x : UInt8) (t : TypeId) : ByAt (w.heap.size + 1) (w.alloc (.cells #[.int .u8 (x.toNat : Int)] t)) (some ⟨w.heap.size, 0, none⟩) 1 [x] := by
  refine ⟨Nat.le_refl _, .inr ⟨w.heap.size, 0, rfl, by omega, by simp, fun j hj => ?_⟩⟩
  obtain rfl : j = 0 := by simpa using hj
  simp

set_option maxRecDepth 100000 in
set_option maxHeartbeats 1000000 in
theorem collector_any (size : Nat) (hs : size ≤ 1000000000) (w : World) :
    Calls Tryd.prog 56 #[.int .i64 (size : Int)] w fun e w' =>
      ∃ g bu ba, e = .returned (.func (Fn.func 66) #[] #[.pointer (some ⟨bu, 0, none⟩), .pointer (some ⟨ba, 0, none⟩)]) ∧ Col w.heap.size g bu ba size [] w' ∧ Below w.heap.size w w' := by
  obtain ⟨i0, hi, hz0, hz1, hz2⟩ := info_parts infoB
  have hmk : ∀ W : World, (Instr.makeSlice 22 (.int .i64 (size : Int)) (.int .i64 (size : Int))).run Tryd.prog W = .ok (.slice (some ⟨W.heap.size, 0, none⟩) size size) (W.alloc (.cells (madeCells (Value.int .u8 0).cells (size * 1)) 5)) := fun W => by
    have := run_make (P := Tryd.prog) W 22 5 i0 _ Tryd.underlying22 hi hz0 .i64 .i64 size size (by omega) (Int.le_refl _) (by rw [hz2]; omega) (by omega)
    rw [hz1] at this
    simpa using this
  clear hi hz0 hz1 hz2
  go_enter Tryd.func56, Tryd.ntmps56
  go_wp2_with fail
  go_ret
  have z1 : (w.alloc (.cells (madeCells #[Value.int .u8 0] size) 5)).heap.size = w.heap.size + 1 := World.size_alloc _ _
  have z2 : ((w.alloc (.cells (madeCells #[Value.int .u8 0] size) 5)).alloc (.cells #[.slice (some ⟨w.heap.size, 0, none⟩) size size] 22)).heap.size = w.heap.size + 1 + 1 := by rw [World.size_alloc, World.size_alloc]
  have r0 := heap_alloc_new w (.cells (madeCells #[Value.int .u8 0] size) 5)
  have r1 := heap_alloc_new (w.alloc (.cells (madeCells #[Value.int .u8 0] size) 5)) (.cells #[.slice (some ⟨w.heap.size, 0, none⟩) size size] 22)
  have r2 := heap_alloc_new ((w.alloc (.cells (madeCells #[Value.int .u8 0] size) 5)).alloc (.cells #[.slice (some ⟨w.heap.size, 0, none⟩) size size] 22)) (.cells #[.int .i64 0] 3)
  rw [z1] at r1
  rw [z2] at r2
  refine ⟨w.heap.size, _, _, rfl, ⟨Nat.le_refl _, by omega, by omega, by omega, by omega, by omega, ⟨(madeCells #[.int .u8 0] size).toList, ?_, ?_⟩, ?_, ?_⟩, ?_⟩
  · rw [Below.heap_alloc _ _ _ (by rw [z2]; omega), Below.heap_alloc _ _ _ (by rw [z1]; omega), r0]
    simp [cellsB]
  · have := size_madeCells #[Value.int .u8 0] (size * 1)
    simpa using this
  · exact r2
  · rw [Below.heap_alloc _ _ _ (by rw [z2]; omega), r1]
  · exact (((Below.refl _ w).alloc (Nat.le_refl _) _).alloc (by rw [z1]; omega) _).alloc (by rw [z2]; omega) _
theorem byAt_34 (w : World) : ByAt (w.heap.size + 1) (w.alloc (.cells #[.int .u8 34] 5)) (some ⟨w.heap.size, 0, none⟩) 1 [34] := byAt_one w 34 _
theorem byAt_92 (w : World) : ByAt (w.heap.size + 1) (w.alloc (.cells #[.int .u8 92] 5)) (some ⟨w.heap.size, 0, none⟩) 1 [92] := byAt_one w 92 _
end Go.Proofs.YtpklpfncohdlhaaDoor
