/- seqset: Valid, Has. -/
import Derived.Test.YtdgcghcigjblaaaDoorSeqValid
import Derived.Test.YtdgcghcigjblaaaDoorSlR
import Derived.Test.YtdgcghcigjblaaaDoorShelf
namespace Go.Proofs.YtdgcghcigjblaaaDoor
open Go.RowKit Go.Shelf

theorem slAt_any {w : World} {b off : Nat} {l : List R} (h : ∀ j x, l[j]? = some x → ∀ i v, (encR x)[i]? = some v → w.cell? ⟨b, off + j * 2 + i, none⟩ = some v) :
    ∀ j, j < l.length → ∀ i v, (encR l[j]!)[i]? = some v → w.cell? ⟨b, off + j * 2 + i, none⟩ = some v := fun j hj i v hi =>
  h j l[j]! (by rw [getElem!_pos l j hj]; exact List.getElem?_eq_getElem hj) i v hi

theorem enters_valid1 : ∀ args w, (callFunc 30 args).run Tryd.prog w = .ok (.enter 30 args) w := enters_of Tryd.func30 (by kernel_rfl) rfl
theorem enters_has1 : ∀ args w, (callFunc 35 args).run Tryd.prog w = .ok (.enter 35 args) w := enters_of Tryd.func35 (by kernel_rfl) rfl

/-- slices.ContainsFunc at the closure of Valid. -/
theorem cont_valid (top b0 : Nat) (A : Option Addr) (c : Nat) (l : List R) (hn : l.length ≤ 1000000000) (hl : l ≠ []) (w : World) (hS : SlAt encR 2 w A l) (hc : w.cell? ⟨b0, 0, none⟩ = some (.int .u32 (top : Int))) (hb : b0 < w.heap.size) :
    Calls Tryd.prog 31 #[.slice A l.length c, .func (.func 30) #[] #[.pointer (some ⟨b0, 0, none⟩)]] w fun e w' =>
      e = .returned (.bool (l.any fun r => decide (top < max r.1 r.2))) ∧ Below w.heap.size w w' := by
  rcases hS with h | ⟨b, off, rfl, hlt, hcs⟩
  · exact absurd h hl
  · have h := AnyQ.slices_ContainsFunc Tryd.laysCont 2 Tryd.isAgg32 Tryd.sizeOf32 encR encR_len (fun r => decide (top < max r.1 r.2)) 30 #[.pointer (some ⟨b0, 0, none⟩)] enters_valid1 b off l.length c l w
      (fun W x hB => (valid1_any top x.1 x.2 b0 W ((hB.cell (p := ⟨b0, 0, none⟩) hb).trans hc) (Nat.lt_of_lt_of_le hb hB.size)).mono fun e w' ⟨h1, h2⟩ => ⟨h1, below_next hB h2⟩) (Nat.le_refl _) (by omega) hlt (slAt_any hcs)
    rw [List.take_length] at h
    exact h
/-- .. at the closure of Has. -/
theorem cont_has (top n b0 b1 : Nat) (A : Option Addr) (c : Nat) (l : List R) (hn : l.length ≤ 1000000000) (hl : l ≠ []) (w : World) (hS : SlAt encR 2 w A l) (hc : w.cell? ⟨b0, 0, none⟩ = some (.int .u32 (top : Int))) (hb : b0 < w.heap.size)
    (hc1 : w.cell? ⟨b1, 0, none⟩ = some (.int .u32 (n : Int))) (hb1 : b1 < w.heap.size) :
    Calls Tryd.prog 31 #[.slice A l.length c, .func (.func 35) #[] #[.pointer (some ⟨b0, 0, none⟩), .pointer (some ⟨b1, 0, none⟩)]] w fun e w' =>
      e = .returned (.bool (l.any (hasR top n))) ∧ Below w.heap.size w w' := by
  rcases hS with h | ⟨b, off, rfl, hlt, hcs⟩
  · exact absurd h hl
  · have h := AnyQ.slices_ContainsFunc Tryd.laysCont 2 Tryd.isAgg32 Tryd.sizeOf32 encR encR_len (hasR top n) 35 #[.pointer (some ⟨b0, 0, none⟩), .pointer (some ⟨b1, 0, none⟩)] enters_has1 b off l.length c l w
      (fun W x hB => (has1_any top n x.1 x.2 b0 b1 W ((hB.cell (p := ⟨b0, 0, none⟩) hb).trans hc) (Nat.lt_of_lt_of_le hb hB.size) ((hB.cell (p := ⟨b1, 0, none⟩) hb1).trans hc1) (Nat.lt_of_lt_of_le hb1 hB.size)).mono fun e w' ⟨h1, h2⟩ => ⟨h1, below_next hB h2⟩) (Nat.le_refl _) (by omega) hlt (slAt_any hcs)
    rw [List.take_length] at h
    exact h

theorem vldL_eq {top : Nat} {l : List R} (h0 : 0 < top) (hl : l ≠ []) : vldL top l = !(l.any fun r => decide (top < max r.1 r.2)) := by
  unfold vldL
  cases l with
  | nil => exact absurd rfl hl
  | cons r l =>
    simp only [h0, decide_true, List.isEmpty_cons, Bool.not_false, Bool.true_and]
    rw [List.all_eq_not_any_not]
    congr 1
    congr 1
    funext r
    rw [← decide_not]
    congr 1
    simp

set_option maxHeartbeats 1000000 in
theorem valid_any (top : Nat) (A : Option Addr) (c : Nat) (l : List R) (hn : l.length ≤ 1000000000) (w : World) (hS : SlAt encR 2 w A l) :
    Calls Tryd.prog 13 #[.int .u32 top, .slice A l.length c] w fun e w' => e = .returned (.bool (vldL top l)) ∧ Below w.heap.size w w' := by
  by_cases h0 : 0 < top
  · by_cases hl : l = []
    · subst hl
      simp only [List.length_nil]
      go_enter Tryd.func13, Tryd.ntmps13
      go_wp2_with fail
      go_ret
      exact ⟨by simp [vldL], by repeat (first | exact Below.refl _ _ | refine Below.setCell ?_ (by simp) _ | refine Below.alloc ?_ (by simp) _)⟩
    · have hpos : 0 < l.length := List.length_pos_iff.2 hl
      rw [vldL_eq h0 hl]
      have C := fun w1 (hB : Below w.heap.size w w1) b0 h1 h2 => Lib.hid (cont_valid top b0 A c l hn hl w1 (hS.below hB) h1 h2)
      clear hS
      generalize (l.any fun r => decide (top < max r.1 r.2)) = x at *
      go_enter Tryd.func13, Tryd.ntmps13
      go_wp2_with fail
      refine (C _ ((Below.refl _ _).alloc (Nat.le_refl _) _) w.heap.size (by simp) (by simp)).out.mono ?_
      rintro e w1 ⟨rfl, hb⟩
      clear C
      go_wp2_with fail
      go_ret
      exact ⟨rfl, below_next ((Below.refl _ _).alloc (Nat.le_refl _) _) hb⟩
  · obtain rfl : top = 0 := by omega
    go_enter Tryd.func13, Tryd.ntmps13
    go_wp2_with fail
    go_ret
    exact ⟨by simp [vldL], by repeat (first | exact Below.refl _ _ | refine Below.setCell ?_ (by simp) _ | refine Below.alloc ?_ (by simp) _)⟩

set_option maxHeartbeats 1000000 in
theorem has_any2 (top n : Nat) (A : Option Addr) (c : Nat) (l : List R) (hn : l.length ≤ 1000000000) (w : World) (hS : SlAt encR 2 w A l) :
    Calls Tryd.prog 18 #[.int .u32 top, .int .u32 n, .slice A l.length c] w fun e w' => e = .returned (.bool (hasL top n l)) ∧ Below w.heap.size w w' := by
  have V := fun w1 (hB : Below w.heap.size w w1) => Lib.hid (valid_any top A c l hn w1 (hS.below hB))
  unfold hasL
  cases hv : vldL top l with
  | false =>
    rw [hv] at V
    rw [Bool.false_and]
    clear hv hS
    go_enter Tryd.func18, Tryd.ntmps18
    go_wp2_with fail
    refine (V _ (((Below.refl _ _).alloc (Nat.le_refl _) _).alloc (by simp) _)).out.mono ?_
    rintro e w1 ⟨rfl, hb⟩
    clear V
    go_wp2_with fail
    go_ret
    exact ⟨rfl, below_next (((Below.refl _ _).alloc (Nat.le_refl _) _).alloc (by simp) _) hb⟩
  | true =>
    rw [hv] at V
    rw [Bool.true_and]
    have hl : l ≠ [] := by rintro rfl; simp [vldL] at hv
    have C := fun w1 (hB : Below w.heap.size w w1) b0 b1 h1 h2 h3 h4 => Lib.hid (cont_has top n b0 b1 A c l hn hl w1 (hS.below hB) h1 h2 h3 h4)
    clear hv hS
    generalize l.any (hasR top n) = x at *
    go_enter Tryd.func18, Tryd.ntmps18
    go_wp2_with fail
    have hB0 : Below w.heap.size w ((w.alloc (.cells #[.int .u32 (top : Int)] 30)).alloc (.cells #[.int .u32 (n : Int)] 30)) := ((Below.refl _ _).alloc (Nat.le_refl _) _).alloc (by simp) _
    refine (V _ hB0).out.mono ?_
    rintro e w1 ⟨rfl, hb⟩
    have hc0 : w1.cell? ⟨w.heap.size, 0, none⟩ = some (.int .u32 (top : Int)) := (hb.cell (p := ⟨w.heap.size, 0, none⟩) (by simp; omega)).trans (by simp)
    have hc1 : w1.cell? ⟨w.heap.size + 1, 0, none⟩ = some (.int .u32 (n : Int)) := (hb.cell (p := ⟨w.heap.size + 1, 0, none⟩) (by simp)).trans (by simp)
    have hs1 := hb.size
    simp only [World.size_alloc] at hs1
    have hB1 := below_next hB0 hb
    clear V hb hB0
    go_wp2_with fail
    refine (C _ hB1 w.heap.size (w.heap.size + 1) hc0 (by omega) hc1 (by omega)).out.mono ?_
    rintro e w2 ⟨rfl, hb⟩
    clear C
    go_wp2_with fail
    go_ret
    exact ⟨rfl, below_next hB1 hb⟩
end Go.Proofs.YtdgcghcigjblaaaDoor
