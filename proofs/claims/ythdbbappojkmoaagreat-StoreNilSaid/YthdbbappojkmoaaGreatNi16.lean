/- StoreNil: rows of bytes beside a mailbox. No walk. -/
import Derived.Test.YthdbbappojkmoaaGreatStStubN
import Derived.Test.YthdbbappojkmoaaGreatEx16
import Derived.Lib.SmallJoins
namespace Go.Proofs.YthdbbappojkmoaaGreat
open Go.RowKit

def u8I (B : Nat) (A : Option Addr) (c : Nat) (l : List UInt8) : Item := rowI B 5 1 A l.length c (flatL encB l)
section
variable {B g : Nat} {st : StP} {items : List Item} {w0 W W' : World}
theorem own_setB {b n c k : Nat} {d : List UInt8} (h : W.ownsRow B 5 1 (.slice (some ⟨b, 0, none⟩) n c) n (flatL encB d)) (x : UInt8) :
    (W.setCell ⟨b, k, none⟩ (.int .u8 (x.toNat : Int))).ownsRow B 5 1 (.slice (some ⟨b, 0, none⟩) n c) n (flatL encB (d.set k x)) := by
  have e : flatL encB (d.set k x) = (flatL encB d).set k (.int .u8 (x.toNat : Int)) := by rw [flatB, flatB, List.map_set]
  rw [e]
  rcases h.2 with ⟨h1, _⟩ | ⟨g, cap, cur, h1, h2, h3, h4, h5, h6, h7⟩
  · cases h1
  · injection h1 with e1 e2 e3
    injection e1 with e1
    injection e1 with e1
    subst e1
    refine ⟨by rw [List.length_set]; exact h.1, .inr ⟨b, cap, _, by rw [e3], h2, Joins.block_setCell h3 _, h4, h5, by simpa using h6, ?_⟩⟩
    rw [← h7]
    simp [List.take_set]
theorem OX.bump {A : Option Addr} {c k : Nat} {d : List UInt8} {items' : List Item} (h : OX B (ST g st) items w0 W) (hi : u8I B A c d ∈ items) (hk : k < d.length) (x : UInt8) (hs : ∀ y ∈ items', y ∈ items ∧ ApI y (u8I B A c d)) :
    ∃ b, A = some ⟨b, 0, none⟩ ∧ W.cell? ⟨b, k, none⟩ = some (.int .u8 (d[k].toNat : Int)) ∧ W.frozen? ⟨b, k, none⟩ = false ∧ OX B (ST g st) (u8I B A c (d.set k x) :: items') w0 (W.setCell ⟨b, k, none⟩ (.int .u8 (x.toNat : Int))) := by
  have ho := h.it _ hi
  have ho' := ho
  rcases ho'.2 with ⟨_, h2⟩ | ⟨b, cap, cur, h1, h2, h3, h4, h5, h6, h7⟩
  · rw [h2] at hk
    exact absurd hk (by omega)
  · injection h1 with e1 e2 e3
    subst e1
    refine ⟨b, rfl, ?_, Joins.unfrozen_of_block h3 k, ?_⟩
    · rcases SlAt.of_own encB_len ho with e | ⟨b2, off, hA, _, hc⟩
      · rw [e] at hk
        simp at hk
      · injection hA with hA
        injection hA with e1 e2
        subst e1; subst e2
        have := hc k _ (List.getElem?_eq_getElem hk) 0 _ rfl
        rwa [Nat.zero_add, Nat.mul_one, Nat.add_zero] at this
    · refine h.mut (ST.objK g st) (it := u8I B (some ⟨b, 0, none⟩) c d) hi (KeptO.of_grown (grown_setCell W b k _) (fun r hr => by cases hr; exact ⟨_, rfl, rfl⟩)) [u8I B (some ⟨b, 0, none⟩) c (d.set k x)] (fun y hy => ?_) (fun y hy => ⟨(hs y hy).1, (hs y hy).2⟩)
      obtain rfl := List.mem_singleton.1 hy
      refine ⟨?_, fun k ⟨a, ha, e⟩ => .inl ⟨a, ha, e⟩⟩
      show ((W.setCell _ _).ownsRow B 5 1 (.slice (some ⟨b, 0, none⟩) (d.set k x).length c) (d.set k x).length (flatL encB (d.set k x)))
      rw [List.length_set]
      exact own_setB ho x
theorem OX.addB {A : Option Addr} {c : Nat} {l : List UInt8} (h : OX B (ST g st) items w0 W) (hb : Below W.heap.size W W') (ho : W'.ownsRow W.heap.size 5 1 (.slice A l.length c) l.length (flatL encB l)) : OX B (ST g st) (u8I B A c l :: items) w0 W' := by
  refine h.add (ST.objK g st) hb [u8I B A c l] (fun it hi => ?_)
  obtain rfl := List.mem_singleton.1 hi
  refine ⟨own_mono ho h.sz, ?_⟩
  rintro k ⟨a, ha, rfl⟩
  exact own_ge ho a ha
theorem OX.get (h : OX B (ST g st) items w0 W) (u : Nat) (hu : u ≤ 4294967295) (m : MsgP) (hm : fndP st.ms u = some m) :
    Calls Tryz.prog 19 #[.pointer (some ⟨g, 0, none⟩), .int .u32 (u : Int)] W fun e w' => ∃ A c, e = .returned (.tuple #[.agg #[.int .u32 (m.u : Int), .int .u8 (m.f : Int), .slice A m.b.length c], .bool true]) ∧ OX B (ST g st) (u8I B A c m.b :: items) w0 w' ∧ ∀ it ∈ items, ApI it (u8I B A c m.b) := by
  obtain ⟨S, t, h2, h3⟩ := h.tb
  refine (sget_any u hu t).mono ?_
  rw [hm]
  rintro e w' ⟨S', A, c, rfl, ho, hA, t', mm, kk⟩
  refine ⟨A, c, rfl, h.call h2 h3 t' mm kk [u8I B A c m.b] (fun x hx => ?_), fun it hi k h1 => ?_⟩
  · obtain rfl := List.mem_singleton.1 hx
    refine ⟨own_mono ho h.sz, ?_⟩
    rintro k ⟨a, ha, rfl⟩
    exact ⟨hA a ha, .inr (own_ge ho a ha)⟩
  · rintro ⟨a, ha, rfl⟩
    have := own_ge ho a ha
    have := it.lt W (h.it it hi) _ h1
    omega
theorem OX.rdB {A : Option Addr} {c : Nat} {l : List UInt8} (h : OX B (ST g st) items w0 W) (hi : u8I B A c l ∈ items) : SlAt encB 1 W A l := SlAt.of_own encB_len (h.it _ hi)
end
end Go.Proofs.YthdbbappojkmoaaGreat
