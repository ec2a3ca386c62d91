/- index: the search; the place of an identifier. -/
import Derived.Test.YtefodmbaknedkaaVh
import Derived.Shelf.SlSorted.Search
import Derived.Test.YtefodmbaknedkaaShelf
namespace Go.Proofs.Ytefodmbaknedkaa
open Go.RowKit Go.Shelf

theorem cnt_range (l : List Nat) (u : Nat) : (List.range l.length).countP (fun i => !decide (u ≤ l[i]!)) = cntL l u := by
  have h := Lib.countP_range l.toArray (fun y => !decide (u ≤ y))
  simpa [cntL] using h
set_option maxRecDepth 100000 in
theorem before1_any (i : Nat) (u x : Nat) (b1 b2 g : Nat) (A : Option Addr) (n c b off : Nat) (W : World) (hi : i < n) (hA : A = some ⟨b, off, none⟩)
    (h1 : W.cell? ⟨b1, 0, none⟩ = some (.pointer (some ⟨g, 0, none⟩))) (h2 : W.cell? ⟨b2, 0, none⟩ = some (.int .u32 (u : Int))) (h3 : W.cell? ⟨g, 0, none⟩ = some (.slice A n c)) (h4 : W.cell? ⟨b, off + i, none⟩ = some (.int .u32 (x : Int))) :
    Calls Try.prog 49 #[.int .i64 i, .pointer (some ⟨b1, 0, none⟩), .pointer (some ⟨b2, 0, none⟩)] W fun e w' => e = .returned (.bool (decide (u ≤ x))) ∧ ∃ q, w' = W.drewN q := by
  subst hA
  go_enter Try.func49, Try.ntmps49
  go_wp2_with fail
  go_quiet (fail)
  go_wp2_with fail
  go_ret
  exact ⟨ret_bool (by simp), _, rfl⟩

variable {g r : Nat} {l : List Nat} {w w' : World}
theorem grow_below (W : World) (m : Nat) (os : Array Obj) : Below W.heap.size W (Sort.grow (W.drewN m) os) := below_grow W m os

set_option maxRecDepth 100000 in
theorem before_any (u : Nat) (h : Ix g r l w) :
    Calls Try.prog 43 #[.pointer (some ⟨g, 0, none⟩), .int .u32 u] w fun e w' => e = .returned (.int .i64 (cntL l u : Nat)) ∧ Below w.heap.size w w' := by
  obtain ⟨W2, hW⟩ : ∃ W2, W2 = (w.alloc (.cells #[.pointer (some ⟨g, 0, none⟩)] 56)).alloc (.cells #[.int .u32 (u : Int)] 35) := ⟨_, rfl⟩
  have hB : Below w.heap.size w W2 := by rw [hW]; exact below_next (below_al w _) (below_al _ _)
  have h2 := h.below hB
  have c1 : W2.cell? ⟨w.heap.size, 0, none⟩ = some (.pointer (some ⟨g, 0, none⟩)) := by rw [hW]; simp
  have c2 : W2.cell? ⟨w.heap.size + 1, 0, none⟩ = some (.int .u32 (u : Int)) := by rw [hW]; simp
  have hs2 : W2.heap.size = w.heap.size + 2 := by rw [hW]; simp
  have LN := Lib.hid (ixlen_any h2)
  have SE := Any.sort_Search { Try.laysSearch with } 49 #[.pointer (some ⟨w.heap.size, 0, none⟩), .pointer (some ⟨w.heap.size + 1, 0, none⟩)] l.length (fun i => decide (u ≤ l[i]!)) W2
    (enters_of Try.func49 (by kernel_rfl) rfl) (by have := h.len; omega)
    (fun m os i hi => by
      have hb := grow_below W2 m os
      obtain ⟨A, c, hc, _, hS, _, _⟩ := (h2.below hb).open
      obtain ⟨b, off, hA, _, hx⟩ := hS.one hi
      refine (before1_any i u l[i] w.heap.size (w.heap.size + 1) g A l.length c b off _ hi hA ((hb.cell (p := ⟨w.heap.size, 0, none⟩) (by show w.heap.size < W2.heap.size; omega)).trans c1) ((hb.cell (p := ⟨w.heap.size + 1, 0, none⟩) (by show w.heap.size + 1 < W2.heap.size; omega)).trans c2) hc hx).mono ?_
      rintro e w' ⟨he, q, hq⟩
      exact ⟨by rw [he, getElem!_pos l i hi], q, #[], by rw [hq, Sort.grow_empty]⟩)
    (fun a b hab hbn ha => by
      have hal : a < l.length := by omega
      rw [getElem!_pos l a hal] at ha
      rw [getElem!_pos l b hbn]
      simp at ha ⊢
      rcases Nat.lt_or_ge a b with hlt | hge
      · exact Nat.le_trans ha (Nat.le_of_lt (List.pairwise_iff_getElem.1 h.asc a b hal hbn hlt))
      · obtain rfl : a = b := by omega
        exact ha)
  rw [cnt_range] at SE
  change Calls Try.prog 48 _ _ _ at SE
  have SE := Lib.hid SE
  have HB := Lib.hid hB
  clear h h2 c1 c2 hs2 hB
  subst hW
  go_enter Try.func43, Try.ntmps43
  go_wp2_with fail
  refine LN.out.mono ?_
  rintro e w1 ⟨rfl, rfl⟩
  go_wp2_with fail
  refine SE.out.mono ?_
  rintro e w1 ⟨rfl, q, os, rfl⟩
  go_wp2_with fail
  go_ret
  exact ⟨rfl, below_next HB.out (grow_below _ _ _)⟩

set_option maxRecDepth 100000 in
theorem before_nil (u : Nat) (w : World) :
    Calls Try.prog 43 #[.pointer none, .int .u32 u] w fun e w' => e = .returned (.int .i64 0) ∧ Below w.heap.size w w' := by
  have SE := fun W cb => Any.sort_Search { Try.laysSearch with } 49 cb 0 (fun _ => false) W (enters_of Try.func49 (by kernel_rfl) rfl) (by omega) (fun m os i hi => absurd hi (Nat.not_lt_zero _)) (fun a b hab hbn ha => ha)
  have SE := Lib.hid (fun W cb => show Calls Try.prog 48 #[.int .i64 0, .func (.func 49) #[] cb] W _ from SE W cb)
  go_enter Try.func43, Try.ntmps43
  go_wp2_with fail
  refine (ixlen_nil _).mono ?_
  rintro e w1 ⟨rfl, rfl⟩
  go_wp2_with fail
  refine (SE.out _ _).mono ?_
  rintro e w1 ⟨rfl, q, os, rfl⟩
  have hb := Lib.hid (below_next (below_next (below_al w _) (below_al _ _)) (grow_below ((w.alloc (.cells #[.pointer none] 56)).alloc (.cells #[.int .u32 (u : Int)] 35)) q os))
  go_wp2_with fail
  go_ret
  exact ⟨rfl, hb.out⟩

set_option maxRecDepth 100000 in
theorem pos_any (u : Nat) (h : Ix g r l w) :
    Calls Try.prog 36 #[.pointer (some ⟨g, 0, none⟩), .int .u32 u] w fun e w' => e = .returned (.int .i64 (posL l u : Nat)) ∧ Below w.heap.size w w' := by
  have BF := Lib.hid (before_any u h)
  have hk := cnt_le l u
  have hl := h.len
  have AT := Lib.hid (fun W (hb : Below w.heap.size w W) => ixat_any ((cntL l u : Nat) + 1 : Int) (by omega) (by omega) (h.below hb))
  have hasc := h.asc
  unfold posL
  by_cases hu : u ∈ l
  · obtain ⟨h1, h2⟩ := at_cnt hasc hu
    have e : atL l ((cntL l u : Nat) + 1 : Int) = (u, true) := by
      unfold atL
      rw [if_pos ⟨by omega, by omega⟩, show (((cntL l u : Nat) : Int) + 1 - 1).toNat = cntL l u by omega, h2]
    rw [e] at AT
    rw [if_pos hu]
    clear e h h2 hasc hu
    generalize cntL l u = k at *
    go_enter Try.func36, Try.ntmps36
    go_wp2_with fail
    refine BF.out.mono ?_
    rintro e w1 ⟨rfl, hb⟩
    have A2 := Lib.hid (AT.out w1 hb)
    have hb := Lib.hid hb
    clear AT BF
    go_wp2_with fail
    refine A2.out.mono ?_
    rintro e w2 ⟨rfl, rfl⟩
    go_wp2_with fail
    go_ret
    exact ⟨by go_num, hb.out⟩
  · rw [if_neg hu]
    by_cases h1 : cntL l u < l.length
    · have h2 := not_cnt hu h1
      obtain ⟨x, hx⟩ : ∃ x, x = l[cntL l u]! := ⟨_, rfl⟩
      have e : atL l ((cntL l u : Nat) + 1 : Int) = (x, true) := by
        unfold atL
        rw [if_pos ⟨by omega, by omega⟩, show (((cntL l u : Nat) : Int) + 1 - 1).toNat = cntL l u by omega, hx]
      rw [e] at AT
      rw [← hx] at h2
      have hxu : ((x : Int) == (u : Int)) = false := by simp; omega
      clear e h h2 hx hasc hu
      generalize cntL l u = k at *
      go_enter Try.func36, Try.ntmps36
      go_wp2_with fail
      refine BF.out.mono ?_
      rintro e w1 ⟨rfl, hb⟩
      have A2 := Lib.hid (AT.out w1 hb)
      have hb := Lib.hid hb
      clear AT BF
      go_wp2_with fail
      refine A2.out.mono ?_
      rintro e w2 ⟨rfl, rfl⟩
      go_wp2_with fail
      go_ret
      exact ⟨rfl, hb.out⟩
    · have e : atL l ((cntL l u : Nat) + 1 : Int) = (0, false) := by
        unfold atL
        rw [if_neg (by omega)]
      rw [e] at AT
      clear e h hasc hu
      generalize cntL l u = k at *
      go_enter Try.func36, Try.ntmps36
      go_wp2_with fail
      refine BF.out.mono ?_
      rintro e w1 ⟨rfl, hb⟩
      have A2 := Lib.hid (AT.out w1 hb)
      have hb := Lib.hid hb
      clear AT BF
      go_wp2_with fail
      refine A2.out.mono ?_
      rintro e w2 ⟨rfl, rfl⟩
      go_wp2_with fail
      go_ret
      exact ⟨rfl, hb.out⟩
set_option maxRecDepth 100000 in
theorem pos_nil (u : Nat) (w : World) :
    Calls Try.prog 36 #[.pointer none, .int .u32 u] w fun e w' => e = .returned (.int .i64 0) ∧ Below w.heap.size w w' := by
  have BF := Lib.hid (before_nil u w)
  have AT := Lib.hid (fun W => ixat_nil 1 (by omega) (by omega) W)
  go_enter Try.func36, Try.ntmps36
  go_wp2_with fail
  refine BF.out.mono ?_
  rintro e w1 ⟨rfl, hb⟩
  have hb := Lib.hid hb
  go_wp2_with fail
  refine (AT.out _).mono ?_
  rintro e w2 ⟨rfl, rfl⟩
  go_wp2_with fail
  go_ret
  exact ⟨rfl, hb.out⟩
end Go.Proofs.Ytefodmbaknedkaa
