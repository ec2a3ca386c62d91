/- slices.Equal at numbers. -/
import Derived.Test.YtefodmbaknedkaaVa
import Derived.WalkKit
import Derived.Test.YtefodmbaknedkaaShelfE
import Derived.Shelf.SlicesE.Equal
import Derived.Laws.StructEq
namespace Go.Proofs.Ytefodmbaknedkaa
open Go.RowKit Go.Shelf

theorem allEq_dec {α : Type} [DecidableEq α] [Inhabited α] {eq : α → α → Bool} (he : ∀ x y, eq x y = decide (x = y)) : ∀ (a b : List α), Lib.allEq eq a b = decide (a = b)
  | [], [] => by simp [Lib.allEq]
  | [], y :: b => by simp [Lib.allEq]
  | x :: a, [] => by simp [Lib.allEq]
  | x :: a, y :: b => by
    rw [Lib.allEq, he, allEq_dec he a b]
    by_cases h1 : x = y <;> by_cases h2 : a = b <;> simp [h1, h2]

theorem neqU : NeqAt Try.prog 35 (fun (n : Nat) => Value.int .u32 (n : Int)) (fun x y => decide (x = y)) :=
  ⟨fun x y w => by
    have h := (NeqAt.int Try.prog 35 .u32).1 (x : Int) (y : Int) w
    rw [h]
    by_cases e : x = y
    · simp [e]
    · have : ¬ (x : Int) = (y : Int) := by omega
      simp [e, this], fun op a b x y w => (GuardAt.int Try.prog 35 .u32) op a b (x : Int) (y : Int) w⟩


set_option maxHeartbeats 1000000 in
theorem equalU_any (A B : Option Addr) (c d : Nat) (l m : List Nat) (hl : l.length ≤ 1000000000) (hm : m.length ≤ 1000000000) (w : World) (h1 : SlAt encU 1 w A l) (h2 : SlAt encU 1 w B m) :
    Calls Try.prog 15 #[.slice A l.length c, .slice B m.length d] w fun e w' => e = .returned (.bool (decide (l = m))) ∧ Below w.heap.size w w' := by
  by_cases hlen : l.length = m.length
  · by_cases h0 : l = []
    · subst h0
      obtain rfl : m = [] := List.eq_nil_of_length_eq_zero hlen.symm
      simp only [List.length_nil, decide_true]
      clear hlen
      go_enter Try.func15, Try.ntmps15
      go_wp2
      refine wp_loop_rounds 1 ?_
      rw [rounds_succ]
      go_wp2
      go_ret
      exact ⟨rfl, Below.refl _ _⟩
    · have h0' : m ≠ [] := by rintro rfl; exact h0 (List.eq_nil_of_length_eq_zero hlen)
      rcases h1 with h | ⟨b1, o1, rfl, _, hc1⟩
      · exact absurd h h0
      rcases h2 with h | ⟨b2, o2, rfl, _, hc2⟩
      · exact absurd h h0'
      have h := AnyE.slices_Equal Try.laysEqU (fun (n : Nat) => Value.int .u32 (n : Int)) (fun x y => decide (x = y)) neqU b1 o1 l.length c b2 o2 m.length d l m w (Nat.le_refl _) (Nat.le_refl _) (by omega) (by omega)
        (fun j hj => by rw [getElem!_pos l j hj]; simpa using hc1 j _ (List.getElem?_eq_getElem hj) 0 _ rfl) (fun j hj => by rw [getElem!_pos m j hj]; simpa using hc2 j _ (List.getElem?_eq_getElem hj) 0 _ rfl)
      rw [List.take_length, List.take_length, allEq_dec (fun x y => rfl)] at h
      refine h.mono ?_
      rintro e w' ⟨he, q, rfl⟩
      exact ⟨he, below_drew q⟩
  · have hne : l ≠ m := fun e => hlen (by rw [e])
    rw [decide_eq_false hne]
    have hi : ¬ (l.length : Int) = (m.length : Int) := by omega
    clear h1 h2 hne
    go_enter Try.func15, Try.ntmps15
    go_wp2
    go_ret
    exact ⟨rfl, Below.refl _ _⟩
end Go.Proofs.Ytefodmbaknedkaa
