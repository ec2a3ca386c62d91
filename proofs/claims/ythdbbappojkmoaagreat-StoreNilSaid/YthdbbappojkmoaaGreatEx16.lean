/- StoreExpunges: a mailbox that is filled, two rows beside it. No walk. -/
import Derived.Test.YthdbbappojkmoaaGreatHx
import Derived.Test.YthdbbappojkmoaaGreatHg
import Derived.Test.YthdbbappojkmoaaGreatHb
namespace Go.Proofs.YthdbbappojkmoaaGreat
open Go.RowKit

/-- Behind k appends that were all taken. -/
structure Ex16 (k : Nat) (st : StP) : Prop where
  cap : st.cap = 60
  len : st.ms.length = k
  next : st.next = k + 1
  sub : ∀ j, st.sub j = none
theorem Ex16.start : Ex16 0 (newP 4 60 1) := ⟨rfl, rfl, rfl, fun _ => rfl⟩
theorem del_bit : ∀ f : Fin 256, (isDel ⟨0, f.val &&& 31, []⟩ = true ↔ f.val &&& 4 ≠ 0) := by decide +kernel
theorem Ex16.step {k : Nat} {st : StP} (h : Ex16 k st) (hk : k < 60) (f : UInt8) :
    (appP st (f.toNat &&& 31) [f]).2 = (k + 1, 0) ∧ Ex16 (k + 1) (appP st (f.toNat &&& 31) [f]).1 ∧
      goneP (appP st (f.toNat &&& 31) [f]).1 = (if f.toNat &&& 4 ≠ 0 then goneP st ++ [k + 1] else goneP st) ∧
      uidsP (expP (appP st (f.toNat &&& 31) [f]).1) = (if f.toNat &&& 4 ≠ 0 then uidsP (expP st) else uidsP (expP st) ++ [k + 1]) := by
  have h1 := h.cap
  have h2 := h.len
  have h3 := h.next
  have e := app_ok (st := st) (f := f.toNat &&& 31) (b := [f]) Nat.and_le_right (by simp) (by omega) (by omega)
  rw [e]
  refine ⟨by simp only; rw [h3], ⟨h1, by simp [h2], by simp only; rw [h3], fun j => by simp only [tellP, h.sub j, Option.map_none]⟩, ?_, ?_⟩
  all_goals
    have hd : isDel ⟨st.next, f.toNat &&& 31, [f]⟩ = decide (f.toNat &&& 4 ≠ 0) := by
      rw [Bool.eq_iff_iff, decide_eq_true_iff]
      exact del_bit ⟨f.toNat, f.toNat_lt⟩
  · rw [gone_snoc (st := st) (m := ⟨st.next, f.toNat &&& 31, [f]⟩) rfl, hd, h3]
    by_cases hb : f.toNat &&& 4 ≠ 0
    · rw [if_pos hb, decide_eq_true hb, if_pos rfl]
    · rw [if_neg hb, decide_eq_false hb]
      simp
  · rw [stay_snoc (st := st) (m := ⟨st.next, f.toNat &&& 31, [f]⟩) rfl, hd, h3]
    by_cases hb : f.toNat &&& 4 ≠ 0
    · rw [if_pos hb, decide_eq_true hb, if_pos rfl]
      simp
    · rw [if_neg hb, decide_eq_false hb]
      simp
theorem Ex16.small {k : Nat} {st : StP} (h : Ex16 k st) (N : Nat) : smallP st N := small_none h.sub N
theorem gone_len (st : StP) : (goneP st).length ≤ st.ms.length := by
  unfold goneP
  rw [List.length_map]
  exact List.length_filter_le _ _
theorem stay_len (st : StP) : (uidsP (expP st)).length ≤ st.ms.length := by
  unfold uidsP expP
  rw [List.length_map]
  exact List.length_filter_le _ _
theorem gone_mem {st : StP} {u : Nat} (h : u ∈ goneP st) : ∃ m ∈ st.ms, m.u = u := by
  obtain ⟨m, hm, e⟩ := List.mem_map.1 h
  exact ⟨m, (List.mem_filter.1 hm).1, e⟩
section
variable {B g : Nat} {st : StP} {w0 W W1 W' : World}
/-- Two items' blocks are apart. -/
def ApI (x y : Item) : Prop := ∀ k, x.blocks k → ¬ y.blocks k
theorem ApI.symm {x y : Item} (h : ApI x y) : ApI y x := fun k h1 h2 => h k h2 h1
/-- One of two rows has grown by a number. -/
theorem OX.push2 {A A' : Option Addr} {c c' : Nat} {l : List Nat} {u : Nat} {it2 : Item} (h : OX B (ST g st) [u32I B A c l, it2] w0 W) (hap : ApI it2 (u32I B A c l)) (hb : Below W.heap.size W W1)
    (hg : W1.grownBy W' (Value.slice A l.length c).ownBlock) (ho : W'.ownsRow B 27 1 (.slice A' (l.length + 1) c') (l.length + 1) (flatL encU l ++ flatL encU [u]))
    (hf : (Value.slice A' (l.length + 1) c').ownBlock = (Value.slice A l.length c).ownBlock ∨ (Value.slice A' (l.length + 1) c').ownBlock = some W1.heap.size) :
    OX B (ST g st) [u32I B A' c' (l ++ [u]), it2] w0 W' ∧ ApI it2 (u32I B A' c' (l ++ [u])) := by
  have hob : ∀ A n c, (Value.slice A n c).ownBlock = A.map Addr.block := fun A n c => by cases A <;> rfl
  have hbl : ∀ k, (u32I B A' c' (l ++ [u])).blocks k → (u32I B A c l).blocks k ∨ W.heap.size ≤ k := by
    rintro k ⟨a, ha, rfl⟩
    rw [hob, hob, ha] at hf
    rcases hf with hf | hf
    · cases hA : A with
      | none => rw [hA] at hf; cases hf
      | some x =>
        rw [hA] at hf
        exact .inl ⟨x, rfl, (Option.some.inj hf).symm⟩
    · have := Option.some.inj hf
      have := hb.size
      exact .inr (by omega)
  have hlt := (h.it it2 (by simp))
  refine ⟨?_, fun k h1 h2 => ?_⟩
  · refine h.mut (ST.objK g st) (it := u32I B A c l) (items' := [it2]) (List.mem_cons_self ..) (KeptO.after_below hb (KeptO.of_grown hg fun r hr => ?_)) [u32I B A' c' (l ++ [u])] (fun x hx => ?_) (fun x hx => ?_)
    · rw [hob] at hr
      cases hA : A with
      | none => rw [hA] at hr; cases hr
      | some x =>
        rw [hA] at hr
        exact ⟨x, rfl, Option.some.inj hr⟩
    · obtain rfl := List.mem_singleton.1 hx
      refine ⟨?_, hbl⟩
      have e1 : (l ++ [u]).length = l.length + 1 := by simp
      have e2 : flatL encU (l ++ [u]) = flatL encU l ++ flatL encU [u] := flatL_append ..
      show W'.ownsRow B 27 1 (.slice A' (l ++ [u]).length c') (l ++ [u]).length (flatL encU (l ++ [u]))
      rw [e1, e2]
      exact ho
    · obtain rfl := List.mem_singleton.1 hx
      exact ⟨by simp, hap⟩
  · rcases hbl k h2 with e | e
    · exact hap k h1 e
    · have := it2.lt W hlt k h1
      omega
end
end Go.Proofs.YthdbbappojkmoaaGreat
