/- slices.Equal, Clone of events; a row of events laid out in one block. -/
import Derived.Test.YthdbbappojkmoaaGreatHb
import Derived.Test.YthdbbappojkmoaaGreatShelfV
import Derived.Shelf.SlicesQ.Equal
import Derived.Laws.StructEq
import Derived.Lib.LazyBuf
namespace Go.Proofs.YthdbbappojkmoaaGreat
open Go.RowKit Go.Shelf

theorem neqEv : NeqAt Tryz.prog 44 (fun x => .agg (encEv x).toArray) (fun x y => x.k == y.k && (x.u == y.u && x.f == y.f)) := by
  refine ⟨fun x y w => ?_, GuardAt.agg _ (by kernel_rfl)⟩
  have u3 := Tryz.underlying27
  have a3 := Tryz.isAgg27
  have z3 := Tryz.sizeOf27
  have u4 := Tryz.underlying3
  have a4 := Tryz.isAgg3
  have z4 := Tryz.sizeOf3
  have u5 := Tryz.underlying32
  have a5 := Tryz.isAgg32
  have z5 := Tryz.sizeOf32
  have hS : Tryz.prog.underlying 44 = some (.struct (Tryz.prog.fieldsOf 44)) := by kernel_rfl
  have hp : Tryz.prog.stoodInHeld 44 = false := by kernel_rfl
  simp only [encEv]
  rw [run_neq_struct, show (10000 : Nat) = 9999 + 1 from rfl, run_equalIn_agg w 9999 44 _ _ hS hp]
  simp only [Program.fieldsOf, Tryz.underlying44]
  have e1 : ((x.u : Int) = (y.u : Int)) = (x.u = y.u) := propext ⟨by omega, by omega⟩
  have e2 : ((x.f : Int) = (y.f : Int)) = (x.f = y.f) := propext ⟨by omega, by omega⟩
  go_simp
  by_cases h0 : x.k = y.k <;> by_cases h1 : x.u = y.u <;> by_cases h2 : x.f = y.f <;> simp [h0, h1, h2]
theorem evEq_dec (x y : EvI) : (x.k == y.k && (x.u == y.u && x.f == y.f)) = decide (x = y) := by
  obtain ⟨a, b, c⟩ := x
  obtain ⟨a', b', c'⟩ := y
  by_cases h0 : a = a' <;> by_cases h1 : b = b' <;> by_cases h2 : c = c' <;> simp [h0, h1, h2]

theorem allEqE_dec {α : Type} [DecidableEq α] [Inhabited α] {eq : α → α → Bool} (he : ∀ x y, eq x y = decide (x = y)) : ∀ (a b : List α), Lib.allEq eq a b = decide (a = b)
  | [], [] => by simp [Lib.allEq]
  | [], y :: b => by simp [Lib.allEq]
  | x :: a, [] => by simp [Lib.allEq]
  | x :: a, y :: b => by
    rw [Lib.allEq, he, allEqE_dec he a b]
    by_cases h1 : x = y <;> by_cases h2 : a = b <;> simp [h1, h2]
set_option maxHeartbeats 1000000 in
theorem equalEv_any (A B : Option Addr) (c d : Nat) (l m : List EvI) (hl : l.length ≤ 1000000000) (hm : m.length ≤ 1000000000) (w : World) (h1 : SlAt encEv 3 w A l) (h2 : SlAt encEv 3 w B m) :
    Calls Tryz.prog 26 #[.slice A l.length c, .slice B m.length d] w fun e w' => e = .returned (.bool (decide (l = m))) ∧ Below w.heap.size w w' := by
  by_cases hlen : l.length = m.length
  · by_cases h0 : l = []
    · subst h0
      obtain rfl : m = [] := List.eq_nil_of_length_eq_zero hlen.symm
      simp only [List.length_nil, decide_true]
      clear hlen
      go_enter Tryz.func26, Tryz.ntmps26
      go_wp2
      refine wp_loop_rounds 1 ?_
      rw [rounds_succ]
      go_wp2
      go_ret
      exact ⟨rfl, Below.refl _ _⟩
    · have h0' : m ≠ [] := by rintro rfl; exact h0 (List.eq_nil_of_length_eq_zero hlen)
      rcases h1 with h | ⟨b1, o1, rfl, _, hc1⟩
      · exact absurd h h0
      rcases h2 with h | ⟨b2, o2, rfl, _, hc2⟩
      · exact absurd h h0'
      have h := AnyQ.slices_Equal Tryz.laysEqV 3 Tryz.isAgg44 Tryz.sizeOf44 encEv encEv_len _ neqEv b1 o1 l.length c b2 o2 m.length d l m w (Nat.le_refl _) (Nat.le_refl _) (by omega) (by omega)
        (fun j hj i v hi => hc1 j _ (by rw [getElem!_pos l j hj] at hi ⊢; exact List.getElem?_eq_getElem hj) i v hi) (fun j hj i v hi => hc2 j _ (by rw [getElem!_pos m j hj] at hi ⊢; exact List.getElem?_eq_getElem hj) i v hi)
      rw [List.take_length, List.take_length, allEqE_dec (fun x y => evEq_dec x y)] at h
      refine h.mono ?_
      rintro e w' ⟨he, q, rfl⟩
      exact ⟨he, below_drew q⟩
  · have hne : l ≠ m := fun e => hlen (by rw [e])
    rw [decide_eq_false hne]
    have hi : ¬ (l.length : Int) = (m.length : Int) := by omega
    clear h1 h2 hne
    go_enter Tryz.func26, Tryz.ntmps26
    go_wp2
    go_ret
    exact ⟨rfl, Below.refl _ _⟩

/-- A row of events that was laid out at once. -/
theorem slAt_lit {W : World} {b : Nat} {T : TypeId} {z : Nat × Nat} {l : List EvI} {cs : Array Value} (h : W.heap[b]? = some (.cells cs T z)) (hc : cs.toList = flatL encEv l) : SlAt encEv 3 W (some ⟨b, 0, none⟩) l := by
  refine .inr ⟨b, 0, rfl, (Array.getElem?_eq_some_iff.1 h).1, fun j x hj i v hi => ?_⟩
  rw [cell_of_row W b _ cs T z h, ← Array.getElem?_toList, hc, Nat.zero_add]
  exact flatL_at encEv_len l j x hj i v hi
end Go.Proofs.YthdbbappojkmoaaGreat
