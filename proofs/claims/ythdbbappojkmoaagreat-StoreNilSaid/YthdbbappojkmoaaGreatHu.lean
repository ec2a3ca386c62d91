/- A mailbox where it lies: a box of its capacity, its counter, its index, its table and its queues. No walk. -/
import Derived.Test.YthdbbappojkmoaaGreatHr
import Derived.Test.YthdbbappojkmoaaGreatHs
import Derived.Test.YthdbbappojkmoaaGreatUdN
import Derived.Test.YthdbbappojkmoaaGreatHm
import Derived.Test.YthdbbappojkmoaaGreatHf
import Derived.Test.YthdbbappojkmoaaGreatHc
import Derived.Test.YthdbbappojkmoaaGreatHb
import Derived.Deep.QuietTactic
import Derived.BigQuiet
namespace Go.Proofs.YthdbbappojkmoaaGreat
open Go.RowKit Go.Maps

/-- The queues as an object. -/
def QusT (mb : Nat) (sub : Int → Option (List EvI)) (S : Nat → Prop) (w : World) : Prop := ∃ n c gq Sq, QX mb n c gq Sq sub w ∧ ∀ k, S k ↔ QS mb Sq k
theorem QusT.objK (mb : Nat) (sub : Int → Option (List EvI)) : ObjK (QusT mb sub) := by
  refine ⟨fun S W ⟨n, c, gq, Sq, h, e⟩ k hk => h.lt k ((e k).1 hk), fun S S' W W' ⟨n, c, gq, Sq, h, e⟩ hk hS => ⟨n, c, gq, Sq, h.kept hk fun k e2 => hS k ((e k).2 e2), e⟩⟩
/-- The mailbox in block g: counter, index (the identifiers U), table, queues. -/
structure SX (g gt gc gi mb : Nat) (T : Int) (L : List MI) (U : List Nat) (S1 S2 S3 : Nat → Prop) (st : StP) (w : World) : Prop where
  box : w.heap[g]? = some (.cells #[.int .i64 (st.cap : Int), .pointer (some ⟨gc, 0, none⟩), .pointer (some ⟨gi, 0, none⟩), .pointer (some ⟨gt, 0, none⟩), .map (some mb)] 72 (0, 0))
  tb : Tb gt st.n S1 L w
  ct : Ctr gc (st.first : Int) (st.next : Int) T w
  ix : IxT gi U S2 w
  qs : QusT mb st.sub S3 w
  d1 : ∀ k, S1 k → k ≠ g ∧ k ≠ gc ∧ ¬ S2 k ∧ ¬ S3 k
  d2 : ∀ k, S2 k → k ≠ g ∧ k ≠ gc ∧ ¬ S3 k
  d3 : ∀ k, S3 k → k ≠ g ∧ k ≠ gc
  dg : g ≠ gc
/-- All blocks of it. -/
def SS (g gc : Nat) (S1 S2 S3 : Nat → Prop) (k : Nat) : Prop := k = g ∨ k = gc ∨ S1 k ∨ S2 k ∨ S3 k
def keyP (m : MsgP) : Nat × Nat × List UInt8 := (m.u, m.f, m.b)
/-- What is known of the numbers and the messages. -/
structure SG (st : StP) (T : Int) (L : List MI) : Prop where
  ms : L.map keyM = st.ms.map keyP
  asc : (st.ms.map (·.u)).Pairwise (· < ·)
  lt : ∀ m ∈ st.ms, m.u < st.next
  cap : st.cap ≤ 4096
  len : st.ms.length ≤ st.cap
  nx : 1 ≤ st.next ∧ st.next ≤ 4294967295
  tk : 0 ≤ T ∧ T < st.next
  sb : ∀ i, (st.sub i).isSome = true → I64 i ∧ 0 ≤ i
def ST (g : Nat) (st : StP) (S : Nat → Prop) (w : World) : Prop := ∃ gt gc gi mb T L S1 S2 S3, SX g gt gc gi mb T L (uidsP st) S1 S2 S3 st w ∧ SG st T L ∧ ∀ k, S k ↔ SS g gc S1 S2 S3 k
section
variable {g gt gc gi mb : Nat} {T : Int} {L : List MI} {U : List Nat} {S S1 S2 S3 : Nat → Prop} {st : StP} {w w' : World}
theorem SX.lt (h : SX g gt gc gi mb T L U S1 S2 S3 st w) : ∀ k, SS g gc S1 S2 S3 k → k < w.heap.size := by
  rintro k (rfl | rfl | e | e | e)
  · exact (Array.getElem?_eq_some_iff.1 h.box).1
  · exact h.ct.lt
  · exact h.tb.lt k e
  · exact (IxT.objK _ _).lt _ _ h.ix k e
  · exact (QusT.objK _ _).lt _ _ h.qs k e
theorem Ctr.keptO {F N T : Int} {S : Nat → Prop} (h : Ctr gc F N T w) (hk : KeptO S w w') (hS : ¬ S gc) : Ctr gc F N T w' := by
  obtain ⟨d, V, e, r⟩ := h.st
  exact ⟨d, V, hk.heap e hS, r⟩
theorem SX.kept {P : Nat → Prop} (h : SX g gt gc gi mb T L U S1 S2 S3 st w) (hk : KeptO P w w') (hU : ∀ k, SS g gc S1 S2 S3 k → ¬ P k) : SX g gt gc gi mb T L U S1 S2 S3 st w' :=
  ⟨hk.heap h.box (hU g (.inl rfl)), h.tb.kept hk fun k e => hU k (.inr (.inr (.inl e))), h.ct.keptO hk (hU gc (.inr (.inl rfl))), (IxT.objK _ _).kept _ _ _ _ h.ix hk fun k e => hU k (.inr (.inr (.inr (.inl e)))), (QusT.objK _ _).kept _ _ _ _ h.qs hk fun k e => hU k (.inr (.inr (.inr (.inr e)))), h.d1, h.d2, h.d3, h.dg⟩
theorem SX.below (h : SX g gt gc gi mb T L U S1 S2 S3 st w) (hb : Below w.heap.size w w') : SX g gt gc gi mb T L U S1 S2 S3 st w' := h.kept (P := fun _ => False) (KeptO.of_below hb) fun _ _ => id
theorem SX.cells (h : SX g gt gc gi mb T L U S1 S2 S3 st w) : w.cell? ⟨g, 0, none⟩ = some (.int .i64 (st.cap : Int)) ∧ w.cell? ⟨g, 1, none⟩ = some (.pointer (some ⟨gc, 0, none⟩)) ∧ w.cell? ⟨g, 2, none⟩ = some (.pointer (some ⟨gi, 0, none⟩)) ∧ w.cell? ⟨g, 3, none⟩ = some (.pointer (some ⟨gt, 0, none⟩)) ∧ w.cell? ⟨g, 4, none⟩ = some (.map (some mb)) :=
  ⟨cell_of_row _ _ 0 _ _ _ h.box, cell_of_row _ _ 1 _ _ _ h.box, cell_of_row _ _ 2 _ _ _ h.box, cell_of_row _ _ 3 _ _ _ h.box, cell_of_row _ _ 4 _ _ _ h.box⟩
/-- Behind a call of the table. -/
theorem SX.tab {L' : List MI} {S1' : Nat → Prop} (h : SX g gt gc gi mb T L U S1 S2 S3 st w) (t : Tb gt st.n S1' L' w') (m : MoreQ S1 S1' w) (k : KeptO S1 w w') (ms : List MsgP) :
    SX g gt gc gi mb T L' U S1' S2 S3 { st with ms := ms } w' ∧ MoreQ (SS g gc S1 S2 S3) (SS g gc S1' S2 S3) w ∧ KeptO (SS g gc S1 S2 S3) w w' := by
  have hg := (Array.getElem?_eq_some_iff.1 h.box).1
  have hc := h.ct.lt
  refine ⟨⟨k.heap h.box fun e => (h.d1 g e).1 rfl, t, h.ct.keptO k fun e => (h.d1 gc e).2.1 rfl, (IxT.objK _ _).kept _ _ _ _ h.ix k fun j e e2 => (h.d1 j e2).2.2.1 e, (QusT.objK _ _).kept _ _ _ _ h.qs k fun j e e2 => (h.d1 j e2).2.2.2 e, fun j e => ?_, h.d2, h.d3, h.dg⟩, ?_, k.mono fun j e => .inr (.inr (.inl e))⟩
  · rcases m j e with e2 | e2
    · exact h.d1 j e2
    · refine ⟨by omega, by omega, fun e3 => ?_, fun e3 => ?_⟩
      · have := (IxT.objK _ _).lt _ _ h.ix j e3
        omega
      · have := (QusT.objK _ _).lt _ _ h.qs j e3
        omega
  · rintro j (rfl | rfl | e | e)
    · exact .inl (.inl rfl)
    · exact .inl (.inr (.inl rfl))
    · exact (m j e).imp (fun e => .inr (.inr (.inl e))) id
    · exact .inl (.inr (.inr (.inr e)))
/-- Behind a call of the index. -/
theorem SX.idx {U' : List Nat} {S2' : Nat → Prop} (h : SX g gt gc gi mb T L U S1 S2 S3 st w) (t : IxT gi U' S2' w') (m : MoreQ S2 S2' w) (k : KeptO S2 w w') :
    SX g gt gc gi mb T L U' S1 S2' S3 st w' ∧ MoreQ (SS g gc S1 S2 S3) (SS g gc S1 S2' S3) w ∧ KeptO (SS g gc S1 S2 S3) w w' := by
  have hg := (Array.getElem?_eq_some_iff.1 h.box).1
  have hc := h.ct.lt
  refine ⟨⟨k.heap h.box fun e => (h.d2 g e).1 rfl, h.tb.kept k fun j e e2 => (h.d1 j e).2.2.1 e2, h.ct.keptO k fun e => (h.d2 gc e).2.1 rfl, t, (QusT.objK _ _).kept _ _ _ _ h.qs k fun j e e2 => (h.d2 j e2).2.2 e, fun j e => ⟨(h.d1 j e).1, (h.d1 j e).2.1, fun e2 => ?_, (h.d1 j e).2.2.2⟩, fun j e => ?_, h.d3, h.dg⟩, ?_, k.mono fun j e => .inr (.inr (.inr (.inl e)))⟩
  · rcases m j e2 with e3 | e3
    · exact (h.d1 j e).2.2.1 e3
    · have := h.tb.lt j e
      omega
  · rcases m j e with e2 | e2
    · exact h.d2 j e2
    · refine ⟨by omega, by omega, fun e3 => ?_⟩
      have := (QusT.objK _ _).lt _ _ h.qs j e3
      omega
  · rintro j (rfl | rfl | e | e | e)
    · exact .inl (.inl rfl)
    · exact .inl (.inr (.inl rfl))
    · exact .inl (.inr (.inr (.inl e)))
    · exact (m j e).imp (fun e => .inr (.inr (.inr (.inl e)))) id
    · exact .inl (.inr (.inr (.inr (.inr e))))
/-- Behind a call of the counter. -/
theorem SX.cnt {x : Nat} {T' : Int} (h : SX g gt gc gi mb T L U S1 S2 S3 st w) (t : Ctr gc (st.first : Int) (x : Int) T' w') (k : w.grownBy w' (some gc)) :
    SX g gt gc gi mb T' L U S1 S2 S3 { st with next := x } w' ∧ KeptO (SS g gc S1 S2 S3) w w' := by
  have kk : KeptO (fun j => j = gc) w w' := KeptO.of_grown k fun r e => by cases e; rfl
  exact ⟨⟨kk.heap h.box h.dg, h.tb.kept kk fun j e e2 => (h.d1 j e).2.1 e2, t, (IxT.objK _ _).kept _ _ _ _ h.ix kk fun j e e2 => (h.d2 j e).2.1 e2, (QusT.objK _ _).kept _ _ _ _ h.qs kk fun j e e2 => (h.d3 j e).2 e2, h.d1, h.d2, h.d3, h.dg⟩, kk.mono fun j e => .inr (.inl e)⟩
/-- Behind a change of the queues. -/
theorem SX.que {sub : Int → Option (List EvI)} {S3' : Nat → Prop} (h : SX g gt gc gi mb T L U S1 S2 S3 st w) (t : QusT mb sub S3' w') (m : MoreQ S3 S3' w) (k : KeptO S3 w w') :
    SX g gt gc gi mb T L U S1 S2 S3' { st with sub := sub } w' ∧ MoreQ (SS g gc S1 S2 S3) (SS g gc S1 S2 S3') w ∧ KeptO (SS g gc S1 S2 S3) w w' := by
  have hg := (Array.getElem?_eq_some_iff.1 h.box).1
  have hc := h.ct.lt
  refine ⟨⟨k.heap h.box fun e => (h.d3 g e).1 rfl, h.tb.kept k fun j e e2 => (h.d1 j e).2.2.2 e2, h.ct.keptO k fun e => (h.d3 gc e).2 rfl, (IxT.objK _ _).kept _ _ _ _ h.ix k fun j e e2 => (h.d2 j e).2.2 e2, t, fun j e => ⟨(h.d1 j e).1, (h.d1 j e).2.1, (h.d1 j e).2.2.1, fun e2 => ?_⟩, fun j e => ⟨(h.d2 j e).1, (h.d2 j e).2.1, fun e2 => ?_⟩, fun j e => ?_, h.dg⟩, ?_, k.mono fun j e => .inr (.inr (.inr (.inr e)))⟩
  · rcases m j e2 with e3 | e3
    · exact (h.d1 j e).2.2.2 e3
    · have := h.tb.lt j e
      omega
  · rcases m j e2 with e3 | e3
    · exact (h.d2 j e).2.2 e3
    · have := (IxT.objK _ _).lt _ _ h.ix j e
      omega
  · rcases m j e with e3 | e3
    · exact h.d3 j e3
    · exact ⟨by omega, by omega⟩
  · rintro j (rfl | rfl | e | e | e)
    · exact .inl (.inl rfl)
    · exact .inl (.inr (.inl rfl))
    · exact .inl (.inr (.inr (.inl e)))
    · exact .inl (.inr (.inr (.inr (.inl e))))
    · exact (m j e).imp (fun e => .inr (.inr (.inr (.inr e)))) id
theorem ST.objK (g : Nat) (st : StP) : ObjK (ST g st) := by
  refine ⟨fun S W ⟨gt, gc, gi, mb, T, L, S1, S2, S3, h, _, e⟩ k hk => h.lt k ((e k).1 hk), fun S S' W W' ⟨gt, gc, gi, mb, T, L, S1, S2, S3, h, hg, e⟩ hk hS => ⟨gt, gc, gi, mb, T, L, S1, S2, S3, h.kept hk fun k e2 => hS k ((e k).2 e2), hg, e⟩⟩
theorem ST.good (h : ST g st S w) : st.cap ≤ 4096 ∧ st.ms.length ≤ st.cap ∧ st.next ≤ 4294967295 ∧ (st.ms.map (·.u)).Pairwise (· < ·) ∧ ∀ m ∈ st.ms, 0 < m.u ∧ m.u < st.next ∧ m.f ≤ 31 ∧ m.b.length ≤ 65536 := by
  obtain ⟨gt, gc, gi, mb, T, L, S1, S2, S3, h, hg, _⟩ := h
  refine ⟨hg.cap, hg.len, hg.nx.2, hg.asc, fun m hm => ?_⟩
  have hk : keyP m ∈ L.map keyM := by rw [hg.ms]; exact List.mem_map_of_mem hm
  obtain ⟨x, hx, he⟩ := List.mem_map.1 hk
  have hok := h.tb.good.ok x hx
  unfold keyM keyP at he
  injection he with h1 h2
  injection h2 with h2 h3
  rw [h1, h2, h3] at hok
  exact ⟨hok.1, hg.lt m hm, hok.2.2.1, hok.2.2.2⟩
end
end Go.Proofs.YthdbbappojkmoaaGreat

namespace Go.Proofs.YthdbbappojkmoaaGreat
open Go.RowKit Go.Maps

section
variable {g gt gc gi mb : Nat} {T : Int} {L : List MI} {S S1 S2 S3 : Nat → Prop} {st : StP} {w w' : World}
theorem wiM_key (L : List MI) (f : Nat) : wiM L f = ((L.map keyM).filter fun x => decide (x.2.1 &&& f = f)).map (·.1) := by
  unfold wiM
  rw [List.filter_map, List.map_map]
  rfl
theorem wiM_ms (h : SG st T L) (f : Nat) : wiM L f = (st.ms.filter fun m => decide (m.f &&& f = f)).map (·.u) := by
  rw [wiM_key, h.ms, List.filter_map, List.map_map]
  rfl
theorem SG.llen (h : SG st T L) : L.length = st.ms.length := by
  have := congrArg List.length h.ms
  simpa using this
theorem SG.with_ (h : SG st T L) {O : List Nat} {f : Nat} (hO : IsSet O (wiM L f)) (hpos : ∀ m ∈ st.ms, 0 < m.u) : O = (st.ms.filter fun m => decide (m.f &&& f = f)).map (·.u) := by
  rw [wiM_ms h] at hO
  refine asc_unique hO.1 (h.asc.sublist (List.Sublist.map _ List.filter_sublist)) fun n => ?_
  rw [hO.2]
  refine ⟨fun e => e.1, fun e => ⟨e, ?_⟩⟩
  obtain ⟨m, hm, rfl⟩ := List.mem_map.1 e
  exact hpos m (List.mem_filter.1 hm).1
theorem SG.all (h : SG st T L) {O : List Nat} (hO : IsSet O (wiM L 0)) (hpos : ∀ m ∈ st.ms, 0 < m.u) : O = uidsP st := by
  rw [h.with_ hO hpos]
  unfold uidsP
  congr 1
  exact List.filter_eq_self.2 fun m _ => by simp
theorem SG.gone (h : SG st T L) {O : List Nat} (hO : IsSet O (wiM L 4)) (hpos : ∀ m ∈ st.ms, 0 < m.u) : O = goneP st := h.with_ hO hpos
theorem SG.find (h : SG st T L) (u : Nat) : (getM L u).map keyM = (fndP st.ms u).map keyP := by
  have e1 : ∀ L : List MI, (getM L u).map keyM = (L.map keyM).find? fun x => decide (x.1 = u) := fun L => by
    unfold getM
    rw [List.find?_map]
    rfl
  rw [e1, h.ms, List.find?_map]
  rfl
theorem SG.fresh (h : SG st T L) : getM L st.next = none := by
  have := h.find st.next
  cases hf : fndP st.ms st.next with
  | none => rw [hf] at this; simpa using this
  | some m =>
    have h1 := List.find?_some hf
    have h2 := h.lt m (List.mem_of_find?_eq_some hf)
    simp at h1
    omega
/-- The next message put in. -/
theorem SG.put (h : SG st T L) (f : Nat) (hf : f ≤ 31) (A : Option Addr) (k : Nat) (b : List UInt8) (hb : b.length ≤ 65536) : putM L ⟨st.next, f, A, k, b⟩ = (L ++ [⟨st.next, f, A, k, b⟩], 0) := by
  have h1 : fdI L st.next = -1 := by
    rcases fdI_get L st.next with ⟨h1, _⟩ | ⟨k, hk, _, h2, _⟩
    · exact h1
    · rw [h.fresh] at h2
      cases h2
  unfold putM
  have := h.nx
  rw [if_neg (by simp only [not_or]; omega), if_neg (by simp only [h1]; omega)]
theorem SG.app (h : SG st T L) (hn : st.next < 4294967295) (hlen : st.ms.length < st.cap) (f : Nat) (A : Option Addr) (k : Nat) (b : List UInt8) (sub : Int → Option (List EvI)) (hs : ∀ i, (sub i).isSome = true → I64 i ∧ 0 ≤ i) :
    SG { st with next := st.next + 1, ms := st.ms ++ [⟨st.next, f, b⟩], sub := sub } (T + 1) (L ++ [⟨st.next, f, A, k, b⟩]) := by
  refine ⟨by rw [List.map_append, List.map_append, h.ms]; rfl, ?_, fun m hm => ?_, h.cap, by rw [List.length_append]; exact hlen, ⟨by have := h.nx; show 1 ≤ st.next + 1; omega, hn⟩, ⟨by have := h.tk; omega, by have := h.tk; show T + 1 < ((st.next + 1 : Nat) : Int); omega⟩, hs⟩
  · show ((st.ms ++ [(⟨st.next, f, b⟩ : MsgP)]).map fun m => m.u).Pairwise (· < ·)
    rw [List.map_append, List.pairwise_append]
    refine ⟨h.asc, by simp, fun x hx y hy => ?_⟩
    obtain ⟨m, hm, rfl⟩ := List.mem_map.1 hx
    simp at hy
    subst hy
    exact h.lt m hm
  · show m.u < st.next + 1
    rcases List.mem_append.1 hm with e | e
    · have := h.lt m e
      omega
    · obtain rfl := List.mem_singleton.1 e
      simp
/-- Some of the messages taken out. -/
theorem SG.del (h : SG st T L) (p : Nat → Bool) (sub : Int → Option (List EvI)) (hs : ∀ i, (sub i).isSome = true → I64 i ∧ 0 ≤ i) :
    SG { st with ms := st.ms.filter (fun m => p m.u), sub := sub } T (L.filter fun m => p m.u) := by
  refine ⟨?_, h.asc.sublist (List.Sublist.map _ List.filter_sublist), fun m hm => h.lt m (List.mem_filter.1 hm).1, h.cap, Nat.le_trans (List.length_filter_le _ _) h.len, h.nx, h.tk, hs⟩
  have e1 : (L.filter fun m => p m.u).map keyM = (L.map keyM).filter fun x => p x.1 := by rw [List.filter_map]; rfl
  show (L.filter fun m => p m.u).map keyM = (st.ms.filter fun m => p m.u).map keyP
  rw [e1, h.ms, List.filter_map]
  rfl
theorem SG.pos (h : SG st T L) (hG : GoodM L) : ∀ m ∈ st.ms, 0 < m.u ∧ m.f ≤ 31 ∧ m.b.length ≤ 65536 := by
  intro m hm
  have hk : keyP m ∈ L.map keyM := by rw [h.ms]; exact List.mem_map_of_mem hm
  obtain ⟨x, hx, he⟩ := List.mem_map.1 hk
  have hok := hG.ok x hx
  unfold keyM keyP at he
  injection he with h1 h2
  injection h2 with h2 h3
  rw [h1, h2, h3] at hok
  exact ⟨hok.1, hok.2.2.1, hok.2.2.2⟩
end
end Go.Proofs.YthdbbappojkmoaaGreat

namespace Go.Proofs.YthdbbappojkmoaaGreat
open Go.RowKit Go.Maps

/-- One event pushed. -/
theorem push1_any (x : EvI) (hx : evOk x) (hk : knownE x = true) (gu : Nat) (q : List EvI) (hq : q.length ≤ 100000) (T : Nat → Prop) (W : World) (ht : QT gu T q W) :
    Calls Tryz.prog 35 #[.pointer (some ⟨gu, 0, none⟩), .slice (some ⟨W.heap.size, 0, none⟩) 1 1] (W.alloc (.cells #[.int .i64 x.k, .int .u32 (x.u : Int), .int .u8 (x.f : Int)] 44)) fun e w' => e = .returned (.tuple #[]) ∧ ∃ T', QT gu T' (q ++ [x]) w' ∧ MoreQ T T' W ∧ KeptO T W w' := by
  have hb := below_al W (.cells #[.int .i64 x.k, .int .u32 (x.u : Int), .int .u8 (x.f : Int)] 44)
  have hn : ∀ k, T k → k ≠ W.heap.size := fun k h => by have := ht.lt k h; omega
  refine (qpush_any (some ⟨W.heap.size, 0, none⟩) 1 [x] (by simp) hq (fun y hy => by rw [List.mem_singleton.1 hy]; exact hx) (slAt_ev x (heap_alloc_new W _)) (.inr (fun a ha hT => by cases ha; exact hn _ hT rfl)) (ht.kept (KeptO.of_below (S := fun _ => False) hb) fun _ _ => id)).mono ?_
  rintro e w1 ⟨S', rfl, h1, h2, h3⟩
  rw [show pushE q [x] = q ++ [x] by unfold pushE; simp [hk]] at h1
  refine ⟨rfl, S', h1, fun k e => (h2 k e).imp id fun e => ?_, KeptO.after_below hb h3⟩
  have := hb.size
  omega
section
variable {g gt gc gi mb : Nat} {T : Int} {L : List MI} {U : List Nat} {S1 S2 S3 : Nat → Prop} {st : StP} {w : World}
/-- Each queue is told; the blocks K that the closure looks at stay. -/
theorem seach_any (K : Nat → Prop) (hK : ∀ k, K k → k < w.heap.size ∧ ¬ S3 k) (F : Nat) (cs : Array Value) (tf : Int → List EvI → List EvI) (henter : ∀ args w, (callFunc F args).run Tryz.prog w = .ok (.enter F args) w)
    (hF : ∀ u gu q T W, I64 u → st.sub u = some q → QT gu T q W → (∀ k, K k → W.heap[k]? = w.heap[k]?) → (∀ k, K k → ¬ T k) → Calls Tryz.prog F (#[.int .i64 u, .pointer (some ⟨gu, 0, none⟩)] ++ cs) W fun e w' => e = .returned (.tuple #[]) ∧ ∃ T', QT gu T' (tf u q) w' ∧ MoreQ T T' W ∧ KeptO T W w')
    (hs : ∀ i, (st.sub i).isSome = true → I64 i) (hX : SX g gt gc gi mb T L U S1 S2 S3 st w) :
    Calls Tryz.prog 33 #[.pointer (some ⟨g, 0, none⟩), .func (.func F) #[] cs] w fun e w' => e = .returned (.tuple #[]) ∧ ∃ S3', SX g gt gc gi mb T L U S1 S2 S3' { st with sub := fun i => (st.sub i).map (tf i) } w' ∧ MoreQ (SS g gc S1 S2 S3) (SS g gc S1 S2 S3') w ∧ KeptO (SS g gc S1 S2 S3) w w' := by
  obtain ⟨n, c, gq, Sq, hQ, hE⟩ := hX.qs
  refine (eachQ_any g mb n c F cs gq Sq st.sub tf (fun W => w.heap.size ≤ W.heap.size ∧ ∀ k, K k → W.heap[k]? = w.heap[k]?) w hX.cells.2.2.2.2 hQ hs henter ⟨Nat.le_refl _, fun _ _ => rfl⟩ (fun W W' T h1 h2 h3 => ⟨Nat.le_trans h1.1 h3.size, fun k hk => ?_⟩) (fun u q T W h1 h2 h3 h4 h5 => hF u (gq u) q T W h1 h2 h3 h4.2 fun k hk e => ?_)).mono ?_
  · have := hK k hk
    refine (h3.block k (by have := h1.1; omega) fun e => ?_).trans (h1.2 k hk)
    rcases h2 k e with e | e
    · exact this.2 ((hE k).2 e)
    · omega
  · have := hK k hk
    rcases h5 k e with e | e
    · exact this.2 ((hE k).2 e)
    · omega
  · rintro e w1 ⟨rfl, Sq', h1, h2, h3⟩
    exact ⟨rfl, _, hX.que (S3' := QS mb Sq') ⟨n, c, gq, Sq', h1, fun _ => Iff.rfl⟩ (fun k e => (h2 k e).imp (hE k).2 id) (h3.mono fun k e => (hE k).2 e)⟩
end
set_option maxRecDepth 100000 in
set_option maxHeartbeats 1000000 in
theorem app1_any (b n : Nat) (hn : n ≤ 4294967295) (u : Int) (gu : Nat) (q : List EvI) (hq : q.length ≤ 100000) (T : Nat → Prop) (W : World) (ht : QT gu T q W) (hB : W.heap[b]? = some (.cells #[.int .u32 (n : Int)] 27)) :
    Calls Tryz.prog 34 #[.int .i64 u, .pointer (some ⟨gu, 0, none⟩), .pointer (some ⟨b, 0, none⟩)] W fun e w' => e = .returned (.tuple #[]) ∧ ∃ T', QT gu T' (q ++ [⟨1, n, 0⟩]) w' ∧ MoreQ T T' W ∧ KeptO T W w' := by
  have c1 : W.cell? ⟨b, 0, none⟩ = some (.int .u32 (n : Int)) := cell_of_row _ _ 0 _ _ _ hB
  have C := Lib.hid (push1_any ⟨1, n, 0⟩ (by unfold evOk; simp; omega) (by rfl) gu q hq T W ht)
  clear ht hB hq hn
  go_enter Tryz.func34, Tryz.ntmps34
  go_wp2_with fail
  refine C.out.mono ?_
  rintro e w1 ⟨rfl, h1⟩
  clear C
  go_wp2_with fail
  go_end0
  exact ⟨rfl, h1⟩
set_option maxRecDepth 100000 in
set_option maxHeartbeats 1000000 in
theorem chg1_any (b1 b2 b3 : Nat) (by_ : Int) (n f : Nat) (hn : n ≤ 4294967295) (hf : f ≤ 255) (u : Int) (gu : Nat) (q : List EvI) (hq : q.length ≤ 100000) (T : Nat → Prop) (W : World) (ht : QT gu T q W)
    (hB1 : W.heap[b1]? = some (.cells #[.int .i64 by_] 3)) (hB2 : W.heap[b2]? = some (.cells #[.int .u32 (n : Int)] 27)) (hB3 : W.heap[b3]? = some (.cells #[.int .u8 (f : Int)] 32)) :
    Calls Tryz.prog 37 #[.int .i64 u, .pointer (some ⟨gu, 0, none⟩), .pointer (some ⟨b1, 0, none⟩), .pointer (some ⟨b2, 0, none⟩), .pointer (some ⟨b3, 0, none⟩)] W fun e w' => e = .returned (.tuple #[]) ∧ ∃ T', QT gu T' (if u = by_ then q else q ++ [⟨3, n, f⟩]) w' ∧ MoreQ T T' W ∧ KeptO T W w' := by
  have c1 : W.cell? ⟨b1, 0, none⟩ = some (.int .i64 by_) := cell_of_row _ _ 0 _ _ _ hB1
  have c2 : W.cell? ⟨b2, 0, none⟩ = some (.int .u32 (n : Int)) := cell_of_row _ _ 0 _ _ _ hB2
  have c3 : W.cell? ⟨b3, 0, none⟩ = some (.int .u8 (f : Int)) := cell_of_row _ _ 0 _ _ _ hB3
  have HT := Lib.hid ht
  by_cases e : u = by_
  · subst e
    rw [if_pos rfl]
    have e1 : (u != u) = false := by simp
    clear ht hB1 hB2 hB3 hq
    go_enter Tryz.func37, Tryz.ntmps37
    go_wp2_with fail
    go_end0
    exact ⟨rfl, T, HT.out, fun _ e => .inl e, KeptO.refl _ _⟩
  · rw [if_neg e]
    have e1 : (u != by_) = true := by simpa using e
    have C := Lib.hid (push1_any ⟨3, n, f⟩ ⟨by simp, hn, hf⟩ (by rfl) gu q hq T W ht)
    clear ht hB1 hB2 hB3 hq hn hf e
    go_enter Tryz.func37, Tryz.ntmps37
    go_wp2_with fail
    refine C.out.mono ?_
    rintro e w1 ⟨rfl, h1⟩
    clear C
    go_wp2_with fail
    go_end0
    exact ⟨rfl, h1⟩
end Go.Proofs.YthdbbappojkmoaaGreat

namespace Go.Proofs.YthdbbappojkmoaaGreat
open Go.RowKit Go.Maps

section
variable {g gt gc gi mb : Nat} {T : Int} {L : List MI} {S S1 S2 S3 : Nat → Prop} {st : StP} {w : World}
theorem uids_last {T : Int} {L : List MI} (h : SG st T L) : lastL (uidsP st) < st.next := by
  have hn := h.nx
  by_cases e : uidsP st = []
  · rw [e]
    show 0 < st.next
    omega
  · obtain ⟨m, hm, hu⟩ := List.mem_map.1 (last_mem e)
    rw [show lastL (uidsP st) = m.u from hu.symm]
    exact h.lt m hm
set_option maxRecDepth 100000 in
set_option maxHeartbeats 2000000 in
theorem add_bad (f : Nat) (hf : f ≤ 255) (A : Option Addr) (c : Nat) (b : List UInt8) (h : 31 < f ∨ 65536 < b.length) (w : World) : Calls Tryz.prog 32 #[.pointer (some ⟨g, 0, none⟩), .int .u8 (f : Int), .slice A b.length c] w fun e w' => e = .returned (.tuple #[.int .u32 0, .int .i64 2]) ∧ w = w' := by
  by_cases h1 : 31 < f
  · have hbad := flags_bad hf h1
    clear h h1
    go_enter Tryz.func32, Tryz.ntmps32
    go_wp2_with fail
    go_ret2
    exact ⟨rfl, rfl⟩
  · have hfit := flags_fit (f := f) (by omega)
    have hb2 : (65536 : Int) < (b.length : Int) := by omega
    clear h h1
    generalize b.length = bl at *
    go_enter Tryz.func32, Tryz.ntmps32
    go_wp2_with fail
    go_ret2
    exact ⟨rfl, rfl⟩
theorem ixt_len_at (h : IxT gi (uidsP st) S2 w) (n0 : Nat) (hn : (uidsP st).length = n0) : ∀ n, Calls Tryz.prog 52 #[.pointer (some ⟨gi, 0, none⟩)] (w.drewN n) fun e w' => e = .returned (.int .i64 (n0 : Nat)) ∧ ∃ m, w' = w.drewN m := by
  intro n
  subst hn
  exact Calls.quiet_of_same ((ixtlen_any ((IxT.objK _ _).kept _ _ _ _ h (KeptO.of_below (S := fun _ => False) (belowDrawN (Below.refl _ _) n)) fun _ _ => id)).mono fun _ _ ⟨a, b⟩ => ⟨a, b.symm⟩)
set_option maxRecDepth 100000 in
set_option maxHeartbeats 2000000 in
theorem add_fill (f : Nat) (hf : f ≤ 31) (A : Option Addr) (c : Nat) (b : List UInt8) (hb : b.length ≤ 65536) (hfull : st.cap ≤ st.ms.length) (hX : SX g gt gc gi mb T L (uidsP st) S1 S2 S3 st w) :
    Calls Tryz.prog 32 #[.pointer (some ⟨g, 0, none⟩), .int .u8 (f : Int), .slice A b.length c] w fun e w' => e = .returned (.tuple #[.int .u32 0, .int .i64 5]) ∧ Below w.heap.size w w' := by
  obtain ⟨c0, c1, c2, c3, c4⟩ := hX.cells
  have hul : (uidsP st).length = st.ms.length := by unfold uidsP; rw [List.length_map]
  have HW := Lib.hid (ixt_len_at hX.ix st.ms.length hul)
  have hfit := flags_fit hf
  have hb2 : ¬ (65536 : Int) < (b.length : Int) := by omega
  have hcc : (st.cap : Int) ≤ (st.ms.length : Int) := by omega
  clear hX c1 c3 c4 hul hf hb hfull
  generalize st.ms.length = n0 at *
  generalize b.length = bl at *
  go_enter Tryz.func32, Tryz.ntmps32
  go_wp2_with fail
  go_quiet ((go_at_call 52; exact HW.out _))
  go_wp2_with fail
  go_ret2
  exact ⟨rfl, belowDrawN (Below.refl _ _) _⟩
set_option maxRecDepth 100000 in
set_option maxHeartbeats 2000000 in
theorem add_last (f : Nat) (hf : f ≤ 31) (A : Option Addr) (c : Nat) (b : List UInt8) (hb : b.length ≤ 65536) (hroom : st.ms.length < st.cap) (hnx : st.next = 4294967295) (hX : SX g gt gc gi mb T L (uidsP st) S1 S2 S3 st w) :
    Calls Tryz.prog 32 #[.pointer (some ⟨g, 0, none⟩), .int .u8 (f : Int), .slice A b.length c] w fun e w' => e = .returned (.tuple #[.int .u32 0, .int .i64 6]) ∧ Below w.heap.size w w' := by
  obtain ⟨c0, c1, c2, c3, c4⟩ := hX.cells
  have hul : (uidsP st).length = st.ms.length := by unfold uidsP; rw [List.length_map]
  have HW := Lib.hid (ixt_len_at hX.ix st.ms.length hul)
  have hfit := flags_fit hf
  have hb2 : ¬ (65536 : Int) < (b.length : Int) := by omega
  have hcc : ¬ (st.cap : Int) ≤ (st.ms.length : Int) := by omega
  have hct : ∀ n, Ctr gc (st.first : Int) 4294967295 T (w.drewN n) := fun n => by
    have := hX.ct.grow (belowDrawN (Below.refl _ _) n)
    rw [hnx] at this
    exact this
  have TF := Lib.hid (fun n => utake_full gc _ _ (w.drewN n) (hct n))
  clear hX c3 c4 hul hf hb hroom hnx hct
  generalize st.ms.length = n0 at *
  generalize b.length = bl at *
  go_enter Tryz.func32, Tryz.ntmps32
  go_wp2_with fail
  go_quiet ((go_at_call 52; exact HW.out _))
  go_wp2_with fail
  refine (TF.out _).mono ?_
  rintro e w2 ⟨rfl, rfl⟩
  clear TF
  go_wp2_with fail
  go_ret2
  exact ⟨rfl, belowDrawN (Below.refl _ _) _⟩
set_option maxRecDepth 100000 in
set_option maxHeartbeats 4000000 in
theorem add_yes (f : Nat) (hf : f ≤ 31) (A : Option Addr) (c : Nat) (b : List UInt8) (hb : b.length ≤ 65536) (hroom : st.ms.length < st.cap) (hnx : st.next < 4294967295) (hby : ByAt w.heap.size w A c b) (hO : b = [] ∨ Out (SS g gc S1 S2 S3) A) (hX : SX g gt gc gi mb T L (uidsP st) S1 S2 S3 st w) (hG : SG st T L) :
    Calls Tryz.prog 32 #[.pointer (some ⟨g, 0, none⟩), .int .u8 (f : Int), .slice A b.length c] w fun e w' => e = .returned (.tuple #[.int .u32 (st.next : Int), .int .i64 0]) ∧ ∃ L' S1' S2', SX g gt gc gi mb (T + 1) L' (uidsP st ++ [st.next]) S1' S2' S3 { st with next := st.next + 1, ms := st.ms ++ [⟨st.next, f, b⟩] } w' ∧ SG { st with next := st.next + 1, ms := st.ms ++ [⟨st.next, f, b⟩] } (T + 1) L' ∧ MoreQ (SS g gc S1 S2 S3) (SS g gc S1' S2' S3) w ∧ KeptO (SS g gc S1 S2 S3) w w' := by
  have hll := hG.llen
  have hlen := hG.len
  have hcap := hG.cap
  have HG := Lib.hid hG
  have hla := uids_last hG
  obtain ⟨c0, c1, c2, c3, c4⟩ := hX.cells
  have hul : (uidsP st).length = st.ms.length := by unfold uidsP; rw [List.length_map]
  have HW := Lib.hid (ixt_len_at hX.ix st.ms.length hul)
  have hfit := flags_fit hf
  have hb2 : ¬ (65536 : Int) < (b.length : Int) := by omega
  have hcc : ¬ (st.cap : Int) ≤ (st.ms.length : Int) := by omega
  have HBY := Lib.hid hby
  have HO := Lib.hid hO
  have HF := Lib.hid hf
  have HBL := Lib.hid hb
  have HAP := Lib.hid (hG.app hnx hroom f A c b st.sub hG.sb)
  have HLA := Lib.hid hla
  have HUL := Lib.hid (show (uidsP st).length < 100000 by omega)
  have HLL := Lib.hid (show L.length ≤ 100000 by omega)
  obtain ⟨nx, hnxe⟩ : ∃ x, st.next = x := ⟨_, rfl⟩
  have HNE := Lib.hid hnxe
  have ht := hG.tk
  have hn1 := hG.nx
  rw [hnxe] at ht hn1 hnx
  have hXd := fun n => hX.below (belowDrawN (Below.refl _ w) n)
  have HX := Lib.hid hXd
  have TK := Lib.hid (fun n => utake_ok gc (st.first : Int) (nx : Int) T (by omega) (by omega) (by omega) (by omega) (w.drewN n) (by have := (hXd n).ct; rw [hnxe] at this; exact this))
  clear hX hXd hG c3 c4 hll hlen hcap hul hf hb hroom hby hO hnxe hla
  generalize st.ms.length = n0 at *
  obtain ⟨bl, hbl⟩ : ∃ x, b.length = x := ⟨_, rfl⟩
  have HB9 := Lib.hid hbl
  rw [hbl] at hb2
  rw [hbl]
  clear hbl
  go_enter Tryz.func32, Tryz.ntmps32
  go_wp2_with fail
  go_quiet ((go_at_call 52; exact HW.out _))
  go_wp2_with fail
  refine (TK.out _).mono ?_
  rintro e w2 ⟨rfl, hUD⟩
  have hcn := hUD.out.1
  rw [show (nx : Int) + 1 = ((nx + 1 : Nat) : Int) by omega] at hcn
  obtain ⟨x1, x2⟩ := (HX.out _).cnt hcn hUD.out.2
  have KK2 := Lib.hid (KeptO.after_below (belowDrawN (Below.refl _ w) _) x2)
  have hby2 : ByAt w2.heap.size w2 A c b := HO.out.elim (fun e => by rw [e]; exact ByAt.nil _ _ _ _) fun h => HBY.out.keptO KK2.out h
  have PT := tput_any (m := ⟨nx, f, A, c, b⟩) (by show nx ≤ _; omega) (by have := HF.out; show f ≤ 255; omega) hby2 (HO.out.imp id fun h a ha e => h a ha (.inr (.inr (.inl e)))) x1.tb HLL.out
  have hpt := HG.out.put f HF.out A c b HBL.out
  rw [HNE.out] at hpt
  rw [hpt] at PT
  unfold msV at PT
  simp only [HB9.out] at PT
  have PT := Lib.hid PT
  have X1 := Lib.hid x1
  obtain ⟨d0, d1, d2, d3, d4⟩ := x1.cells
  clear TK hUD hcn x1 x2 hby2 hpt c0 c1 c2 HW
  go_wp2_with fail
  refine PT.out.mono ?_
  rintro e w3 ⟨S1', rfl, t1, t2, t3⟩
  obtain ⟨y1, y2, y3⟩ := X1.out.tab t1 t2.2 t3 (st.ms ++ [⟨nx, f, b⟩])
  have KK3 := Lib.hid (KK2.out.trans y3 fun _ e => .inl e)
  have hm3 : MoreQ (SS g gc S1 S2 S3) (SS g gc S1' S2 S3) w := fun k e => (y2 k e).imp id fun e => by have := KK2.out.size; omega
  have HM3 := Lib.hid hm3
  have hix := y1.ix
  have AP := Lib.hid (ixtappend_any nx (by omega) HUL.out (by have := HLA.out; rw [HNE.out] at this; exact this) hix)
  have Y1 := Lib.hid y1
  obtain ⟨f0, f1, f2, f3, f4⟩ := y1.cells
  clear PT t1 t2 t3 y1 y2 y3 hm3 d0 d1 d2 d3 d4 X1 hix
  go_wp2_with fail
  refine AP.out.mono ?_
  rintro e w4 ⟨rfl, S2', z1, z2, z3⟩
  obtain ⟨q1, q2, q3⟩ := Y1.out.idx z1 z2 z3
  have Q1 := Lib.hid q1
  have Q2 := Lib.hid q2
  have Q3 := Lib.hid q3
  clear AP z1 z2 z3 q1 q2 q3 Y1 f0 f1 f2 f3 f4
  go_wp2_with fail
  go_ret2
  have hg := HAP.out
  rw [HNE.out] at hg ⊢
  refine ⟨rfl, _, _, _, Q1.out, hg, fun k e => ?_, KK3.out.trans Q3.out fun k e => HM3.out k e⟩
  rcases Q2.out k e with e | e
  · exact HM3.out k e
  · have := KK3.out.size
    exact .inr (by omega)
theorem SS.of {g gc : Nat} {S1 S2 S3 S1' S2' S3' : Nat → Prop} (hS : ∀ k, S k ↔ SS g gc S1 S2 S3 k) (h : MoreQ (SS g gc S1 S2 S3) (SS g gc S1' S2' S3') w) : MoreQ S (SS g gc S1' S2' S3') w := fun k e => (h k e).imp (hS k).2 id
theorem tell_all {x : EvI} (hs : ∀ i, (st.sub i).isSome = true → 0 ≤ i) : (fun i => (st.sub i).map fun q => q ++ [x]) = tellP (-1) x st.sub := by
  funext i
  unfold tellP
  cases hi : st.sub i with
  | none => rfl
  | some q =>
    have := hs i (by rw [hi]; rfl)
    show some (q ++ [x]) = some (if i = -1 then q else q ++ [x])
    rw [if_neg (by omega)]
/-- A refused Append. -/
theorem app_no (f : Nat) (A : Option Addr) (n c : Nat) (cd : Int) (hcd : cd ≠ 0)
    (C : Calls Tryz.prog 32 #[.pointer (some ⟨g, 0, none⟩), .int .u8 (f : Int), .slice A n c] w fun e w' => e = .returned (.tuple #[.int .u32 0, .int .i64 cd]) ∧ Below w.heap.size w w') :
    Calls Tryz.prog 10 #[.pointer (some ⟨g, 0, none⟩), .int .u8 (f : Int), .slice A n c] w fun e w' => e = .returned (.tuple #[.int .u32 0, .int .i64 cd]) ∧ Below w.heap.size w w' := by
  have HC := Lib.hid C
  have e1 : (cd == 0) = false := by simpa using hcd
  clear C hcd
  go_enter Tryz.func10, Tryz.ntmps10
  go_wp2_with fail
  refine HC.out.mono ?_
  rintro e w1 ⟨rfl, hb⟩
  have HB := Lib.hid (below_next hb (below_al w1 (.cells #[.int .u32 0] 27)))
  clear HC hb
  go_wp2_with fail
  go_ret2
  exact ⟨rfl, HB.out⟩
end
end Go.Proofs.YthdbbappojkmoaaGreat

namespace Go.Proofs.YthdbbappojkmoaaGreat
open Go.RowKit Go.Maps

section
variable {g gt gc gi mb : Nat} {T : Int} {L : List MI} {S S1 S2 S3 : Nat → Prop} {st : StP} {w : World}
set_option maxRecDepth 100000 in
set_option maxHeartbeats 4000000 in
theorem app_yes (f : Nat) (hf : f ≤ 31) (A : Option Addr) (c : Nat) (b : List UInt8) (hb : b.length ≤ 65536) (hroom : st.ms.length < st.cap) (hnx : st.next < 4294967295) (hby : ByAt w.heap.size w A c b) (hO : b = [] ∨ Out (SS g gc S1 S2 S3) A) (hq : smallP st 50000) (hX : SX g gt gc gi mb T L (uidsP st) S1 S2 S3 st w) (hG : SG st T L) :
    Calls Tryz.prog 10 #[.pointer (some ⟨g, 0, none⟩), .int .u8 (f : Int), .slice A b.length c] w fun e w' => e = .returned (.tuple #[.int .u32 (st.next : Int), .int .i64 0]) ∧ ∃ L' S1' S2' S3', SX g gt gc gi mb (T + 1) L' (uidsP (appP st f b).1) S1' S2' S3' (appP st f b).1 w' ∧ SG (appP st f b).1 (T + 1) L' ∧ MoreQ (SS g gc S1 S2 S3) (SS g gc S1' S2' S3') w ∧ KeptO (SS g gc S1 S2 S3) w w' := by
  have HA := Lib.hid (add_yes f hf A c b hb hroom hnx hby hO hX hG)
  have HG := Lib.hid hG
  have HQ := Lib.hid hq
  have HAP := Lib.hid (show (appP st f b).1 = { st with next := st.next + 1, ms := st.ms ++ [⟨st.next, f, b⟩], sub := tellP (-1) ⟨1, st.next, 0⟩ st.sub } by
    unfold appP
    rw [if_neg (by omega), if_neg (by omega), if_neg (by omega)])
  have HNX := Lib.hid hnx
  generalize b.length = bl at *
  obtain ⟨nx, hnxe⟩ : ∃ x, st.next = x := ⟨_, rfl⟩
  rw [hnxe] at HA HAP HNX ⊢
  clear hX hG hf hb hroom hby hO hq hnx hnxe
  go_enter Tryz.func10, Tryz.ntmps10
  go_wp2_with fail
  refine HA.out.mono ?_
  rintro e w1 ⟨rfl, L', S1', S2', k1, k2, k3, k4⟩
  have hb := below_al w1 (.cells #[.int .u32 (nx : Int)] 27)
  have hn := heap_alloc_new w1 (.cells #[.int .u32 (nx : Int)] 27)
  have hz : (w1.alloc (.cells #[.int .u32 (nx : Int)] 27)).heap.size = w1.heap.size + 1 := by simp
  have hlt := k1.lt
  have C := Lib.hid (seach_any (st := { st with next := nx + 1, ms := st.ms ++ [⟨nx, f, b⟩] }) (fun k => k = w1.heap.size) (fun k hk => ⟨by omega, fun e => by have := hlt k (.inr (.inr (.inr (.inr e)))); omega⟩) 34 #[.pointer (some ⟨w1.heap.size, 0, none⟩)] (fun _ q => q ++ [(⟨1, nx, 0⟩ : EvI)]) (fun args w => by simp [go_sem])
    (fun u gu q T W _ h2 h3 h4 _ => app1_any w1.heap.size nx (by have := HNX.out; omega) u gu q (by have := HQ.out u q h2; omega) T W h3 ((h4 _ rfl).trans hn)) (fun i e => (HG.out.sb i e).1) (k1.below hb))
  have HN := Lib.hid hn
  have HB := Lib.hid hb
  have K2 := Lib.hid k2
  have K3 := Lib.hid k3
  have K4 := Lib.hid (k4.then_below hb)
  have HL := Lib.hid (fun e => Nat.lt_irrefl _ (hlt w1.heap.size e))
  clear HA hb hn hz hlt k1 k2 k3 k4
  go_wp2_with fail
  refine C.out.mono ?_
  rintro e w2 ⟨rfl, S3', z1, z2, z3⟩
  have hbx := z3.heap HN.out HL.out
  have d0 : w2.cell? ⟨w1.heap.size, 0, none⟩ = some (.int .u32 (nx : Int)) := cell_of_row _ _ 0 _ _ _ hbx
  have Z1 := Lib.hid z1
  have Z2 := Lib.hid z2
  have Z3 := Lib.hid z3
  clear C z1 z2 z3 hbx HN HL
  go_wp2_with fail
  go_ret2
  have hz1 := Z1.out
  have e1 : (fun i => (st.sub i).map fun q => q ++ [(⟨1, nx, 0⟩ : EvI)]) = tellP (-1) ⟨1, nx, 0⟩ st.sub := tell_all fun i e => (HG.out.sb i e).2
  simp only [e1] at hz1
  have hu : uidsP { st with next := nx + 1, ms := st.ms ++ [⟨nx, f, b⟩], sub := tellP (-1) ⟨1, nx, 0⟩ st.sub } = uidsP st ++ [nx] := by
    unfold uidsP
    rw [List.map_append]
    rfl
  rw [HAP.out, hu]
  refine ⟨rfl, L', S1', S2', S3', hz1, ⟨K2.out.ms, K2.out.asc, K2.out.lt, K2.out.cap, K2.out.len, K2.out.nx, K2.out.tk, fun i e => HG.out.sb i (by unfold tellP at e; simpa using e)⟩, fun k e => ?_, K4.out.trans Z3.out fun k e => K3.out k e⟩
  rcases Z2.out k e with e | e
  · exact K3.out k e
  · have := K4.out.size
    exact .inr (by omega)
theorem sapp_any (f : Nat) (hf : f ≤ 255) (A : Option Addr) (c : Nat) (b : List UInt8) (hS : ByAt w.heap.size w A c b) (hO : b = [] ∨ Out S A) (hq : smallP st 50000) (h : ST g st S w) :
    Calls Tryz.prog 10 #[.pointer (some ⟨g, 0, none⟩), .int .u8 (f : Int), .slice A b.length c] w fun e w' => ∃ S', e = .returned (.tuple #[.int .u32 ((appP st f b).2.1 : Nat), .int .i64 (appP st f b).2.2]) ∧ ST g (appP st f b).1 S' w' ∧ MoreQ S S' w ∧ KeptO S w w' := by
  have no : ∀ cd : Int, cd ≠ 0 → appP st f b = (st, 0, cd) → Calls Tryz.prog 32 #[.pointer (some ⟨g, 0, none⟩), .int .u8 (f : Int), .slice A b.length c] w (fun e w' => e = .returned (.tuple #[.int .u32 0, .int .i64 cd]) ∧ Below w.heap.size w w') →
      Calls Tryz.prog 10 #[.pointer (some ⟨g, 0, none⟩), .int .u8 (f : Int), .slice A b.length c] w fun e w' => ∃ S', e = .returned (.tuple #[.int .u32 ((appP st f b).2.1 : Nat), .int .i64 (appP st f b).2.2]) ∧ ST g (appP st f b).1 S' w' ∧ MoreQ S S' w ∧ KeptO S w w' := by
    intro cd hcd he C
    refine (app_no f A b.length c cd hcd C).mono ?_
    rintro e w' ⟨rfl, hb⟩
    rw [he]
    exact ⟨S, rfl, (ST.objK g st).kept _ _ _ _ h (KeptO.of_below (S := fun _ => False) hb) fun _ _ => id, fun k e => .inl e, KeptO.of_below hb⟩
  by_cases h1 : 31 < f ∨ 65536 < b.length
  · refine no 2 (by decide) (by unfold appP; rw [if_pos h1]) ((add_bad f hf A c b h1 w).mono ?_)
    rintro e w' ⟨rfl, rfl⟩
    exact ⟨rfl, Below.refl _ _⟩
  · obtain ⟨gt, gc, gi, mb, T, L, S1, S2, S3, hX, hG, hE⟩ := id h
    by_cases h2 : st.cap ≤ st.ms.length
    · exact no 5 (by decide) (by unfold appP; rw [if_neg h1, if_pos h2]) (add_fill f (by omega) A c b (by omega) h2 hX)
    · by_cases h3 : 4294967295 ≤ st.next
      · exact no 6 (by decide) (by unfold appP; rw [if_neg h1, if_neg h2, if_pos h3]) (add_last f (by omega) A c b (by omega) (by omega) (by have := hG.nx; omega) hX)
      · have e2 : (appP st f b).2 = (st.next, 0) := by
          unfold appP
          rw [if_neg h1, if_neg h2, if_neg h3]
        rw [e2]
        refine (app_yes f (by omega) A c b (by omega) (by omega) (by omega) hS (hO.imp id fun h a ha e => h a ha ((hE _).2 e)) hq hX hG).mono ?_
        rintro e w' ⟨rfl, L', S1', S2', S3', k1, k2, k3, k4⟩
        exact ⟨_, rfl, ⟨gt, gc, gi, mb, _, L', S1', S2', S3', k1, k2, fun _ => Iff.rfl⟩, SS.of hE k3, k4.mono fun k e => (hE k).2 e⟩
end
end Go.Proofs.YthdbbappojkmoaaGreat
