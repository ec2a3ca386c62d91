/- Two objects as one. No walk. -/
import Derived.Test.YtefodmbaknedkaaVk
import Derived.Test.YtefodmbaknedkaaVa
import Derived.Test.YtefodmbaknedkaaVn
namespace Go.Proofs.Ytefodmbaknedkaa
open Go.RowKit

/-- Two objects. -/
def TwoT (T1 T2 : (Nat → Prop) → World → Prop) (S : Nat → Prop) (w : World) : Prop := ∃ S1 S2, T1 S1 w ∧ T2 S2 w ∧ (∀ k, S1 k → ¬ S2 k) ∧ ∀ k, S k ↔ S1 k ∨ S2 k
section
variable {T1 T2 T1' T2' : (Nat → Prop) → World → Prop} {S : Nat → Prop} {w w' : World}
theorem TwoT.objK (h1 : ObjK T1) (h2 : ObjK T2) : ObjK (TwoT T1 T2) := by
  refine ⟨fun S W ⟨S1, S2, a, b, c, d⟩ k hk => ?_, fun S S' W W' ⟨S1, S2, a, b, c, d⟩ hk hS => ⟨S1, S2, h1.kept _ _ _ _ a hk fun k e => hS k ((d k).2 (.inl e)), h2.kept _ _ _ _ b hk fun k e => hS k ((d k).2 (.inr e)), c, d⟩⟩
  rcases (d k).1 hk with e | e
  · exact h1.lt _ _ a k e
  · exact h2.lt _ _ b k e
/-- Behind a call of the first. -/
theorem TwoT.fst {S1 S2 S1' : Nat → Prop} (h2 : ObjK T2) (b : T2 S2 w) (c : ∀ k, S1 k → ¬ S2 k) (d : ∀ k, S k ↔ S1 k ∨ S2 k) (t : T1' S1' w') (m : MoreQ S1 S1' w) (kk : KeptO S1 w w') :
    TwoT T1' T2 (fun k => S1' k ∨ S2 k) w' ∧ MoreQ S (fun k => S1' k ∨ S2 k) w ∧ KeptO S w w' := by
  refine ⟨⟨S1', S2, t, h2.kept _ _ _ _ b kk fun k e e2 => c k e2 e, fun k e e2 => ?_, fun k => Iff.rfl⟩, fun k e => ?_, kk.mono fun k e => (d k).2 (.inl e)⟩
  · rcases m k e with e3 | e3
    · exact c k e3 e2
    · have := h2.lt _ _ b k e2
      omega
  · rcases e with e | e
    · exact (m k e).imp (fun e => (d k).2 (.inl e)) id
    · exact .inl ((d k).2 (.inr e))
theorem TwoT.swap (h : TwoT T1 T2 S w) : TwoT T2 T1 S w := by
  obtain ⟨S1, S2, a, b, c, d⟩ := h
  exact ⟨S2, S1, b, a, fun k e e2 => c k e2 e, fun k => (d k).trans Or.comm⟩
end
end Go.Proofs.Ytefodmbaknedkaa

namespace Go.Proofs.Ytefodmbaknedkaa
open Go.RowKit

/-- A row of identifiers of the law's own. -/
def u32I (B : Nat) (A : Option Addr) (c : Nat) (l : List Nat) : Item := rowI B 35 1 A l.length c (flatL encU l)
section
variable {B g : Nat} {v : List Nat} {items : List Item} {w0 W W' : World}
theorem OX.vgood (h : OX B (VT g v) items w0 W) : goodV v := by
  obtain ⟨S, t, _⟩ := h.tb
  exact t.good
theorem OX.vbel (h : OX B (VT g v) items w0 W) (hb : Below W.heap.size W W') : OX B (VT g v) items w0 W' := h.below (VT.objK g v) hb
theorem OX.vdraw (h : OX B (VT g v) items w0 W) (n : Nat) : OX B (VT g v) items w0 (W.drewN n) := h.vbel (belowDrawN (Below.refl _ _) n)
/-- A new list of the reference's beside it. -/
theorem OX.vrow (h : OX B (VT g v) items w0 W) {A : Option Addr} {c : Nat} {l : List Nat} (ho : W'.ownsRow W.heap.size 35 1 (.slice A l.length c) l.length (flatL encU l)) (hb : Below W.heap.size W W') : OX B (VT g v) (u32I B A c l :: items) w0 W' := by
  refine h.add (VT.objK g v) hb [u32I B A c l] fun x hx => ?_
  obtain rfl := List.mem_singleton.1 hx
  exact ⟨own_mono ho h.sz, fun k ⟨a, ha, e⟩ => e ▸ own_from ho a ha⟩
theorem u32I_at {A : Option Addr} {c : Nat} {l : List Nat} (h : (u32I B A c l).holds W) : SlAt encU 1 W A l := SlAt.of_own encU_len h
end
section
variable {B a b : Nat} {va vb : List Nat} {items : List Item} {w0 W W' : World}
theorem VT.objK2 (a b : Nat) (va vb : List Nat) : ObjK (TwoT (VT a va) (VT b vb)) := TwoT.objK (VT.objK a va) (VT.objK b vb)
/-- A second view. -/
theorem OX.two {S2 : Nat → Prop} (h : OX B (VT a va) items w0 W) (t : VT b vb S2 W') (s2 : ∀ k, S2 k → W.heap.size ≤ k) (hb : Below W.heap.size W W') : OX B (TwoT (VT a va) (VT b vb)) items w0 W' := by
  have h' := h.vbel hb
  obtain ⟨S1, t1, k1, k2⟩ := h.tb
  have t1' := (VT.objK a va).kept _ _ _ _ t1 (KeptO.of_below (S := fun _ => False) hb) fun _ _ => id
  refine ⟨⟨fun k => S1 k ∨ S2 k, ⟨S1, S2, t1', t, fun k e e2 => ?_, fun k => Iff.rfl⟩, fun k e => ?_, fun it hi k hk e => ?_⟩, h'.it, h'.ge, h'.be, h'.sz⟩
  · have := (VT.objK a va).lt _ _ t1 k e
    have := s2 k e2
    omega
  · rcases e with e | e
    · exact k1 k e
    · exact Nat.le_trans h.sz (s2 k e)
  · rcases e with e | e
    · exact k2 it hi k hk e
    · have := it.lt W (h.it it hi) k hk
      have := s2 k e
      omega
theorem OX.swap {T1 T2 : (Nat → Prop) → World → Prop} (h : OX B (TwoT T1 T2) items w0 W) : OX B (TwoT T2 T1) items w0 W := by
  obtain ⟨S, t, h2, h3⟩ := h.tb
  exact ⟨⟨S, t.swap, h2, h3⟩, h.it, h.ge, h.be, h.sz⟩
theorem OX.bel2 (h : OX B (TwoT (VT a va) (VT b vb)) items w0 W) (hb : Below W.heap.size W W') : OX B (TwoT (VT a va) (VT b vb)) items w0 W' := h.below (VT.objK2 a b va vb) hb
end
end Go.Proofs.Ytefodmbaknedkaa

namespace Go.Proofs.Ytefodmbaknedkaa
open Go.RowKit

/-- A row of responses of the law's own. -/
def rsI (B : Nat) (A : Option Addr) (c : Nat) (l : List RI) : Item := rowI B 47 10 A l.length c (flatL enc0 l)
section
variable {B g : Nat} {v : List Nat} {items : List Item} {w0 W W' : World}
theorem OX.vlen (h : OX B (VT g v) items w0 W) : Calls Try.prog 17 #[.pointer (some ⟨g, 0, none⟩)] W fun e w' => e = .returned (.int .i64 (v.length : Int)) ∧ OX B (VT g v) items w0 w' := by
  obtain ⟨S, t, _⟩ := h.tb
  refine (vlen_any t).mono ?_
  rintro e w' ⟨rfl, hb⟩
  exact ⟨rfl, h.vbel hb⟩
theorem OX.vat (h : OX B (VT g v) items w0 W) (p : Int) (hp : -9223372036854775808 ≤ p ∧ p ≤ 9223372036854775807) :
    Calls Try.prog 18 #[.pointer (some ⟨g, 0, none⟩), .int .i64 p] W fun e w' => e = .returned (.tuple #[.int .u32 ((atL v p).1 : Nat), .bool (atL v p).2]) ∧ OX B (VT g v) items w0 w' := by
  obtain ⟨S, t, _⟩ := h.tb
  refine (vat_any p hp t).mono ?_
  rintro e w' ⟨rfl, hb⟩
  exact ⟨rfl, h.vbel hb⟩
theorem OX.vseq (h : OX B (VT g v) items w0 W) (u : Nat) (hu : u ≤ 4294967295) : Calls Try.prog 19 #[.pointer (some ⟨g, 0, none⟩), .int .u32 (u : Int)] W fun e w' => e = .returned (.int .i64 (posL v u : Nat)) ∧ OX B (VT g v) items w0 w' := by
  obtain ⟨S, t, _⟩ := h.tb
  refine (vseq_any u hu t).mono ?_
  rintro e w' ⟨rfl, hb⟩
  exact ⟨rfl, h.vbel hb⟩
theorem OX.vuids (h : OX B (VT g v) items w0 W) (hv : v.length ≤ 60000) : Calls Try.prog 16 #[.pointer (some ⟨g, 0, none⟩)] W fun e w' => ∃ A c, e = .returned (.slice A v.length c) ∧ OX B (VT g v) (u32I B A c v :: items) w0 w' := by
  obtain ⟨S, t, _⟩ := h.tb
  refine (vuids_any hv t).mono ?_
  rintro e w' ⟨A, c, rfl, ho, hb⟩
  refine ⟨A, c, rfl, h.add (VT.objK g v) hb [u32I B A c v] fun x hx => ?_⟩
  obtain rfl := List.mem_singleton.1 hx
  exact ⟨own_mono ho h.sz, fun k ⟨a, ha, e⟩ => e ▸ own_from ho a ha⟩
theorem OX.vapply (h : OX B (VT g v) items w0 W) (A : Option Addr) (c : Nat) (l : List EvI) (hc : l.length ≤ c) (hl : l.length ≤ 10000) (hv : v.length ≤ 50000) (hok : ∀ e ∈ l, evOk e) (hS : SlAt encEv 3 W A l) (hO : l = [] ∨ (∀ a, A = some a → a.block < B) ∨ ∃ it ∈ items, ∀ a, A = some a → it.blocks a.block) :
    Calls Try.prog 14 #[.pointer (some ⟨g, 0, none⟩), .slice A l.length c] W fun e w' => ∃ A' c', e = .returned (.slice A' (apV v false l).2.length c') ∧ OX B (VT g (apV v false l).1) (rsI B A' c' (apV v false l).2 :: items) w0 w' := by
  obtain ⟨S, t, h2, h3⟩ := h.tb
  refine (vapply_any A c l hl hv hok hS ?_ hc t).mono ?_
  · rcases hO with hO | hO | ⟨it, hi, ha⟩
    · exact .inl hO
    · refine .inr fun a ha e => ?_
      have := hO a ha
      have := h2 _ e
      omega
    · exact .inr fun a e e2 => h3 it hi _ (ha a e) e2
  · rintro e w' ⟨S', A', c', rfl, ho, hA, t', m, kk⟩
    refine ⟨A', c', rfl, h.call h2 h3 t' m kk [rsI B A' c' (apV v false l).2] fun x hx => ?_⟩
    obtain rfl := List.mem_singleton.1 hx
    exact ⟨own_mono ho h.sz, fun k ⟨a, ha, e⟩ => e ▸ ⟨hA a ha, .inr (own_from ho a ha)⟩⟩
theorem rsI_at {A : Option Addr} {c : Nat} {l : List RI} (hp : ∀ r ∈ l, plainR r) (h : (rsI B A c l).holds W) : RsAt W A (l.map rx0) := rsAt_own hp h
end
section
variable {B a b : Nat} {va vb : List Nat} {items : List Item} {w0 W W' : World}
/-- Events for the first of two views. -/
theorem OX.vapply2 (h : OX B (TwoT (VT a va) (VT b vb)) items w0 W) (A : Option Addr) (c : Nat) (l : List EvI) (hc : l.length ≤ c) (hl : l.length ≤ 10000) (hv : va.length ≤ 50000) (hok : ∀ e ∈ l, evOk e) (hS : SlAt encEv 3 W A l) (hO : l = [] ∨ (∀ a, A = some a → a.block < B)) :
    Calls Try.prog 14 #[.pointer (some ⟨a, 0, none⟩), .slice A l.length c] W fun e w' => ∃ A' n' c', e = .returned (.slice A' n' c') ∧ OX B (TwoT (VT a (apV va false l).1) (VT b vb)) items w0 w' := by
  obtain ⟨S, ⟨S1, S2, t1, t2, dis, d⟩, h2, h3⟩ := h.tb
  refine (vapply_any A c l hl hv hok hS ?_ hc t1).mono ?_
  · rcases hO with hO | hO
    · exact .inl hO
    · refine .inr fun x ha e => ?_
      have := hO x ha
      have := h2 _ ((d _).2 (.inl e))
      omega
  · rintro e w' ⟨S1', A', c', rfl, _, _, t', m, kk⟩
    obtain ⟨p1, p2, p3⟩ := TwoT.fst (S := S) (T1' := VT a (apV va false l).1) (VT.objK b vb) t2 dis d t' m kk
    exact ⟨A', _, c', rfl, h.call h2 h3 p1 p2 p3 [] (fun x hx => by cases hx)⟩
theorem OX.vuids2 (h : OX B (TwoT (VT a va) (VT b vb)) items w0 W) (hv : va.length ≤ 60000) : Calls Try.prog 16 #[.pointer (some ⟨a, 0, none⟩)] W fun e w' => ∃ A c, e = .returned (.slice A va.length c) ∧ SlAt encU 1 w' A va ∧ Below W.heap.size W w' ∧ OX B (TwoT (VT a va) (VT b vb)) items w0 w' := by
  obtain ⟨S, ⟨S1, S2, t1, t2, dis, d⟩, h2, h3⟩ := h.tb
  refine (vuids_any hv t1).mono ?_
  rintro e w' ⟨A, c, rfl, ho, hb⟩
  exact ⟨A, c, rfl, SlAt.of_own encU_len ho, hb, h.bel2 hb⟩
end
end Go.Proofs.Ytefodmbaknedkaa
