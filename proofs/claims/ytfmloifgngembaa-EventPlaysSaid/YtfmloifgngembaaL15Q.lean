/- The laws of layer 15: a queue, the rows that the law holds beside it, another queue. No walk. -/
import Derived.Test.YtfmloifgngembaaEvStub
import Derived.Test.YtfmloifgngembaaEvSl
import Derived.Test.YtfmloifgngembaaApG
namespace Go.Proofs.Ytfmloifgngembaa
open Go.RowKit

/-- A row of events that the law holds. -/
structure EvRow where
  A : Option Addr
  c : Nat
  l : List EvI
def EvRow.own (r : EvRow) (B : Nat) (W : World) : Prop := W.ownsRow B 39 3 (.slice r.A r.l.length r.c) r.l.length (flatL encEv r.l)
def EvRow.in_ (r : EvRow) (k : Nat) : Prop := ∃ a, r.A = some a ∧ a.block = k
theorem EvRow.own.lt {r : EvRow} {B : Nat} {W : World} (h : r.own B W) {k : Nat} (hk : r.in_ k) : B ≤ k ∧ k < W.heap.size := by
  obtain ⟨a, ha, rfl⟩ := hk
  rcases h.2 with ⟨e, _⟩ | ⟨g, cap, cur, e, hb, h5, _⟩
  · injection e with e
    rw [e] at ha
    cases ha
  · injection e with e
    rw [e] at ha
    cases ha
    exact ⟨hb, (Array.getElem?_eq_some_iff.1 h5).1⟩
theorem EvRow.own.kept {r : EvRow} {B : Nat} {S : Nat → Prop} {W W' : World} (h : r.own B W) (hk : KeptO S W W') (hS : Out S r.A) : r.own B W' := by
  refine ⟨h.1, h.2.imp id ?_⟩
  rintro ⟨g, cap, cur, h1, h2, h3, h4⟩
  have hA : r.A = some ⟨g, 0, none⟩ := by injection h1
  exact ⟨g, cap, cur, h1, h2, hk.heap h3 (hS _ hA), h4⟩
theorem EvRow.own.sl {r : EvRow} {B : Nat} {W : World} (h : r.own B W) : SlAt encEv 3 W r.A r.l := SlAt.of_own encEv_len h
theorem EvRow.own.mono {r : EvRow} {B B' : Nat} {W : World} (h : r.own B W) (hB : B' ≤ B) : r.own B' W := own_mono h hB
/-- The queue g has q; all lies from block B on; the rows that the law holds; another queue, empty, if there is one. -/
structure QX (B g : Nat) (o : Option Nat) (q : List EvI) (rows : List EvRow) (w0 W : World) : Prop where
  tb : ∃ S, QT g S q W ∧ (∀ k, S k → B ≤ k) ∧ (∀ r ∈ rows, Out S r.A) ∧ ∀ g2, o = some g2 → ∃ S2, QT g2 S2 [] W ∧ (∀ k, S2 k → B ≤ k ∧ ¬ S k) ∧ ∀ r ∈ rows, Out S2 r.A
  rw : ∀ r ∈ rows, r.own B W
  be : Below B w0 W
  sz : B ≤ W.heap.size
section
variable {B g : Nat} {o : Option Nat} {q : List EvI} {rows : List EvRow} {w0 W W' : World}
theorem QX.below (h : QX B g o q rows w0 W) (hb : Below W.heap.size W W') : QX B g o q rows w0 W' := by
  obtain ⟨S, h1, h2, h3, h4⟩ := h.tb
  have k := KeptO.of_below (S := fun _ => False) hb
  refine ⟨⟨S, h1.kept k fun _ _ => id, h2, h3, fun g2 e => ?_⟩, fun r hr => (h.rw r hr).kept k fun _ _ => id, h.be.trans (hb.mono h.sz), Nat.le_trans h.sz hb.size⟩
  obtain ⟨S2, k1, k2⟩ := h4 g2 e
  exact ⟨S2, k1.kept k fun _ _ => id, k2⟩
theorem QX.draw (h : QX B g o q rows w0 W) (n : Nat) : QX B g o q rows w0 (W.drewN n) := h.below (belowDrawN (Below.refl _ _) n)
theorem QX.sub {rows' : List EvRow} (h : QX B g o q rows w0 W) (hs : ∀ r ∈ rows', r ∈ rows) : QX B g o q rows' w0 W := by
  obtain ⟨S, h1, h2, h3, h4⟩ := h.tb
  refine ⟨⟨S, h1, h2, fun r hr => h3 r (hs r hr), fun g2 e => ?_⟩, fun r hr => h.rw r (hs r hr), h.be, h.sz⟩
  obtain ⟨S2, k1, k2, k3⟩ := h4 g2 e
  exact ⟨S2, k1, k2, fun r hr => k3 r (hs r hr)⟩
theorem QX.add {r : EvRow} (h : QX B g o q rows w0 W) (hb : Below W.heap.size W W') (hr : r.own W.heap.size W') : QX B g o q (r :: rows) w0 W' := by
  have h' := h.below hb
  obtain ⟨S, h1, h2, h3, h4⟩ := h.tb
  have k := KeptO.of_below (S := fun _ => False) hb
  have hn : ∀ S' : Nat → Prop, (∀ k, S' k → k < W.heap.size) → Out S' r.A := fun S' hS a ha e => by
    have := (hr.lt ⟨a, ha, rfl⟩).1
    have := hS _ e
    omega
  refine ⟨⟨S, h1.kept k fun _ _ => id, h2, fun r' hr' => ?_, fun g2 e => ?_⟩, fun r' hr' => ?_, h'.be, h'.sz⟩
  · rcases List.mem_cons.1 hr' with e | e
    · rw [e]; exact hn S h1.lt
    · exact h3 r' e
  · obtain ⟨S2, k1, k2, k3⟩ := h4 g2 e
    refine ⟨S2, k1.kept k fun _ _ => id, k2, fun r' hr' => ?_⟩
    rcases List.mem_cons.1 hr' with e | e
    · rw [e]; exact hn S2 k1.lt
    · exact k3 r' e
  · rcases List.mem_cons.1 hr' with e | e
    · rw [e]; exact hr.mono h.sz
    · exact h'.rw r' e
/-- A row that the law holds has been written. -/
theorem QX.mut {r : EvRow} {rows' : List EvRow} (h : QX B g o q rows w0 W) (hr : r ∈ rows) (hk : KeptO (fun k => r.in_ k) W W') (hs : ∀ r' ∈ rows', r' ∈ rows ∧ Apart r.A r'.A) : QX B g o q rows' w0 W' := by
  obtain ⟨S, h1, h2, h3, h4⟩ := h.tb
  have out : ∀ S' : Nat → Prop, Out S' r.A → ∀ k, S' k → ¬ r.in_ k := fun S' hS k hk2 ⟨a, ha, e⟩ => hS a ha (e ▸ hk2)
  refine ⟨⟨S, h1.kept hk (out S (h3 r hr)), h2, fun r' hr' => h3 r' (hs r' hr').1, fun g2 e => ?_⟩, fun r' hr' => (h.rw r' (hs r' hr').1).kept hk fun a ha ⟨a2, ha2, e⟩ => (hs r' hr').2 a2 a ha2 ha e, h.be.trans (hk.below (fun k hk2 => ((h.rw r hr).lt hk2).1) h.sz), Nat.le_trans h.sz hk.size⟩
  obtain ⟨S2, k1, k2, k3⟩ := h4 g2 e
  exact ⟨S2, k1.kept hk (out S2 (k3 r hr)), k2, fun r' hr' => k3 r' (hs r' hr').1⟩
/-- Behind a call of the queue. -/
theorem QX.next {S S' : Nat → Prop} {q' : List EvI} (h : QX B g o q rows w0 W) (h2 : ∀ k, S k → B ≤ k) (h3 : ∀ r ∈ rows, Out S r.A) (h4 : ∀ g2, o = some g2 → ∃ S2, QT g2 S2 [] W ∧ (∀ k, S2 k → B ≤ k ∧ ¬ S k) ∧ ∀ r ∈ rows, Out S2 r.A) (t : QT g S' q' W') (m : MoreQ S S' W) (kk : KeptO S W W') : QX B g o q' rows w0 W' := by
  refine ⟨⟨S', t, fun k hk => (m k hk).elim (h2 k) fun e => Nat.le_trans h.sz e, fun r hr a ha e => (m _ e).elim (h3 r hr a ha) fun e => ?_, fun g2 e => ?_⟩, fun r hr => (h.rw r hr).kept kk (h3 r hr), h.be.trans (kk.below h2 h.sz), Nat.le_trans h.sz kk.size⟩
  · have := ((h.rw r hr).lt ⟨a, ha, rfl⟩).2
    omega
  · obtain ⟨S2, k1, k2, k3⟩ := h4 g2 e
    refine ⟨S2, k1.kept kk fun k hk => (k2 k hk).2, fun k hk => ⟨(k2 k hk).1, fun e => (m k e).elim (k2 k hk).2 fun e => ?_⟩, k3⟩
    have := k1.lt k hk
    omega
theorem QX.push (h : QX B g o q rows w0 W) (A : Option Addr) (c : Nat) (l : List EvI) (hl : l.length ≤ 1000) (hq : q.length ≤ 100000) (hok : ∀ x ∈ l, evOk x) (hS : SlAt encEv 3 W A l) (hO : l = [] ∨ (∀ a, A = some a → a.block < B) ∨ ∃ r ∈ rows, r.A = A) :
    Calls Try.prog 12 #[.pointer (some ⟨g, 0, none⟩), .slice A l.length c] W fun e w' => e = .returned (.tuple #[]) ∧ QX B g o (pushE q l) rows w0 w' := by
  obtain ⟨S, h1, h2, h3, h4⟩ := h.tb
  refine (qpush_any A c l hl hq hok hS ?_ h1).mono ?_
  · rcases hO with hO | hO | ⟨r, hr, rfl⟩
    · exact .inl hO
    · refine .inr fun a ha e => ?_
      have := hO a ha
      have := h2 _ e
      omega
    · exact .inr (h3 r hr)
  · rintro e w' ⟨S', rfl, t, m, kk⟩
    exact ⟨rfl, h.next h2 h3 h4 t m kk⟩
theorem QX.clear (h : QX B g o q rows w0 W) (hq : q.length ≤ 100000) :
    Calls Try.prog 14 #[.pointer (some ⟨g, 0, none⟩)] W fun e w' => e = .returned (.int .i64 (q.length : Int)) ∧ QX B g o [] rows w0 w' := by
  obtain ⟨S, h1, h2, h3, h4⟩ := h.tb
  refine (qclear_any hq h1).mono ?_
  rintro e w' ⟨S', rfl, t, m, kk⟩
  exact ⟨rfl, h.next h2 h3 h4 t m kk⟩
theorem QX.flush (h : QX B g o q rows w0 W) (gone : Bool) (hq : q.length ≤ 100000) :
    Calls Try.prog 17 #[.pointer (some ⟨g, 0, none⟩), .bool gone] W fun e w' => ∃ r : EvRow, e = .returned (.slice r.A r.l.length r.c) ∧ r.l = sqE (toldE gone q) ∧ QX B g o (restE gone q) (r :: rows) w0 w' := by
  obtain ⟨S, h1, h2, h3, h4⟩ := h.tb
  refine (qflush_any gone hq h1).mono ?_
  rintro e w' ⟨S', A, c, rfl, hown, hA, t, m, kk⟩
  refine ⟨⟨A, c, sqE (toldE gone q)⟩, rfl, rfl, ?_⟩
  have hn := h.next h2 h3 h4 t m kk
  have hB : ∀ a, A = some a → B ≤ a.block := fun a ha => (hA a ha).2.elim (h2 _) fun e => Nat.le_trans h.sz e
  have ho : EvRow.own ⟨A, c, sqE (toldE gone q)⟩ B w' := by
    refine ⟨hown.1, hown.2.imp id ?_⟩
    rintro ⟨k, cap, cur, e1, _, e3, e4⟩
    have hA' : A = some ⟨k, 0, none⟩ := by injection e1
    exact ⟨k, cap, cur, e1, hB _ hA', e3, e4⟩
  refine ⟨⟨S', t, fun k hk => (m k hk).elim (h2 k) fun e => Nat.le_trans h.sz e, fun r hr => ?_, fun g2 e => ?_⟩, fun r hr => ?_, hn.be, hn.sz⟩
  · rcases List.mem_cons.1 hr with e | e
    · rw [e]; exact fun a ha => (hA a ha).1
    · intro a ha e2
      refine (m _ e2).elim (h3 r e a ha) fun e3 => ?_
      have := ((h.rw r e).lt ⟨a, ha, rfl⟩).2
      omega
  · obtain ⟨S2, k1, k2, k3⟩ := h4 g2 e
    refine ⟨S2, k1.kept kk fun k hk => (k2 k hk).2, fun k hk => ⟨(k2 k hk).1, fun e => (m k e).elim (k2 k hk).2 fun e => by have := k1.lt k hk; omega⟩, fun r hr => ?_⟩
    rcases List.mem_cons.1 hr with e | e
    · rw [e]
      intro a ha e2
      refine (hA a ha).2.elim (k2 _ e2).2 fun e3 => ?_
      have := k1.lt _ e2
      omega
    · exact k3 r e
  · rcases List.mem_cons.1 hr with e | e
    · rw [e]; exact ho
    · exact hn.rw r e
theorem QX.len (h : QX B g o q rows w0 W) (hq : q.length ≤ 100000) : Calls Try.prog 18 #[.pointer (some ⟨g, 0, none⟩)] W fun e w' => e = .returned (.int .i64 (q.length : Int)) ∧ QX B g o q rows w0 w' := by
  obtain ⟨S, h1, _⟩ := h.tb
  exact (qlen_any hq h1).mono fun _ _ ⟨h2, h3⟩ => ⟨h2, h.below h3⟩
theorem QX.has (h : QX B g o q rows w0 W) (u : Nat) (hu : u ≤ 4294967295) (hq : q.length ≤ 100000) : Calls Try.prog 19 #[.pointer (some ⟨g, 0, none⟩), .int .u32 (u : Int)] W fun e w' => e = .returned (.bool (hasE q u)) ∧ QX B g o q rows w0 w' := by
  obtain ⟨S, h1, _⟩ := h.tb
  exact (qhas_any u hu hq h1).mono fun _ _ ⟨h2, h3⟩ => ⟨h2, h.below h3⟩
theorem QX.len2 {g2 : Nat} (h : QX B g (some g2) q rows w0 W) : Calls Try.prog 18 #[.pointer (some ⟨g2, 0, none⟩)] W fun e w' => e = .returned (.int .i64 0) ∧ QX B g (some g2) q rows w0 w' := by
  obtain ⟨S, _, _, _, h4⟩ := h.tb
  obtain ⟨S2, k1, _⟩ := h4 g2 rfl
  exact (qlen_any (by simp) k1).mono fun _ _ ⟨h2, h3⟩ => ⟨h2, h.below h3⟩
theorem QX.start {S : Nat → Prop} (hB : B = w0.heap.size) (t : QT g S [] W) (hs : ∀ k, S k → B ≤ k) (hb : Below B w0 W) : QX B g none [] [] w0 W := by
  refine ⟨⟨S, t, hs, (fun r hr => by cases hr), (fun g2 e => by cases e)⟩, (fun r hr => by cases hr), hb, ?_⟩
  have := hb.size
  omega
/-- Another queue is made. -/
theorem QX.other {g2 : Nat} {S2 : Nat → Prop} (h : QX B g none q [] w0 W) (t : QT g2 S2 [] W') (hs : ∀ k, S2 k → W.heap.size ≤ k) (hb : Below W.heap.size W W') : QX B g (some g2) q [] w0 W' := by
  have h' := h.below hb
  obtain ⟨S, h1, h2, _, _⟩ := h.tb
  have k := KeptO.of_below (S := fun _ => False) hb
  refine ⟨⟨S, h1.kept k fun _ _ => id, h2, (fun r hr => by cases hr), fun g3 e => ?_⟩, (fun r hr => by cases hr), h'.be, h'.sz⟩
  cases e
  refine ⟨S2, t, fun k hk => ⟨Nat.le_trans h.sz (hs k hk), fun e => ?_⟩, (fun r hr => by cases hr)⟩
  have := h1.lt k e
  have := hs k hk
  omega
end
end Go.Proofs.Ytfmloifgngembaa
