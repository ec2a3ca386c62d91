/- slices.Equal at ranges. -/
import Derived.Test.YtdgcghcigjblaaaDoorSlEqU
import Derived.Test.YtdgcghcigjblaaaDoorSlR
import Derived.Shelf.SlicesQ.Equal
namespace Go.Proofs.YtdgcghcigjblaaaDoor
open Go.RowKit Go.Shelf

theorem neqR : NeqAt Tryd.prog 32 (fun x => .agg (encR x).toArray) (fun x y => x.1 == y.1 && x.2 == y.2) := by
  refine ⟨fun x y w => ?_, GuardAt.agg _ (by kernel_rfl)⟩
  have u3 := Tryd.underlying30
  have a3 := Tryd.isAgg30
  have z3 := Tryd.sizeOf30
  have hS : Tryd.prog.underlying 32 = some (.struct (Tryd.prog.fieldsOf 32)) := by kernel_rfl
  have hp : Tryd.prog.stoodInHeld 32 = false := by kernel_rfl
  simp only [encR]
  rw [run_neq_struct, show (10000 : Nat) = 9999 + 1 from rfl, run_equalIn_agg w 9999 32 _ _ hS hp]
  simp only [Program.fieldsOf, Tryd.underlying32]
  have e1 : ((x.fst : Int) = (y.fst : Int)) = (x.fst = y.fst) := propext ⟨by omega, by omega⟩
  have e2 : ((x.snd : Int) = (y.snd : Int)) = (x.snd = y.snd) := propext ⟨by omega, by omega⟩
  go_simp
  by_cases h1 : x.fst = y.fst <;> by_cases h2 : x.snd = y.snd <;> simp [h1, h2]

set_option maxHeartbeats 1000000 in
theorem equalR_any (A B : Option Addr) (c d : Nat) (l m : List R) (hl : l.length ≤ 1000000000) (hm : m.length ≤ 1000000000) (w : World) (h1 : SlAt encR 2 w A l) (h2 : SlAt encR 2 w B m) :
    Calls Tryd.prog 12 #[.slice A l.length c, .slice B m.length d] w fun e w' => e = .returned (.bool (decide (l = m))) ∧ Below w.heap.size w w' := by
  by_cases hlen : l.length = m.length
  · by_cases h0 : l = []
    · subst h0
      obtain rfl : m = [] := List.eq_nil_of_length_eq_zero hlen.symm
      simp only [List.length_nil, decide_true]
      clear hlen
      go_enter Tryd.func12, Tryd.ntmps12
      go_wp2
      refine wp_loop_rounds 1 ?_
      rw [rounds_succ]
      go_wp2
      go_ret
      exact ⟨rfl, Below.refl _ _⟩
    · have h0' : m ≠ [] := by rintro rfl; exact h0 (List.eq_nil_of_length_eq_zero hlen)
      rcases h1 with h | ⟨b1, o1, rfl, _, hc1⟩
      · exact absurd h h0
      rcases h2 with h | ⟨b2, o2, rfl, _, hc2⟩
      · exact absurd h h0'
      have h := AnyQ.slices_Equal Tryd.laysEqR 2 Tryd.isAgg32 Tryd.sizeOf32 encR encR_len _ neqR b1 o1 l.length c b2 o2 m.length d l m w (Nat.le_refl _) (Nat.le_refl _) (by omega) (by omega)
        (fun j hj i v hi => hc1 j _ (by rw [getElem!_pos l j hj] at hi ⊢; exact List.getElem?_eq_getElem hj) i v hi) (fun j hj i v hi => hc2 j _ (by rw [getElem!_pos m j hj] at hi ⊢; exact List.getElem?_eq_getElem hj) i v hi)
      rw [List.take_length, List.take_length, allEq_dec (fun x y => by
        obtain ⟨x1, x2⟩ := x
        obtain ⟨y1, y2⟩ := y
        by_cases e1 : x1 = y1 <;> by_cases e2 : x2 = y2 <;> simp [e1, e2])] at h
      refine h.mono ?_
      rintro e w' ⟨he, q, rfl⟩
      exact ⟨he, below_drew q⟩
  · have hne : l ≠ m := fun e => hlen (by rw [e])
    rw [decide_eq_false hne]
    have hi : ¬ (l.length : Int) = (m.length : Int) := by omega
    clear h1 h2 hne
    go_enter Tryd.func12, Tryd.ntmps12
    go_wp2
    go_ret
    exact ⟨rfl, Below.refl _ _⟩

end Go.Proofs.YtdgcghcigjblaaaDoor
