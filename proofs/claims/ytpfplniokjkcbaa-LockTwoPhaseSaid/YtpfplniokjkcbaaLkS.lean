/- The reference of layer 14: Owner, Free, New. -/
import Derived.Test.YtpfplniokjkcbaaLkR
import Derived.Lib.SmallJoins
namespace Go.Proofs.Ytpfplniokjkcbaa
open Go.RowKit

section
variable {A : Option Addr} {c : Nat} {q : Int} {L : List Int} {w : World}
set_option maxRecDepth 100000 in
set_option maxHeartbeats 1000000 in
theorem rowner14_any (k : Int) (_ : L.length ≤ 1000) (hS : SlAt encI 1 w A L) :
    Calls Try.prog 18 #[tbV A L.length c q, .int .i64 k] w fun e w' => e = .returned (.int .i64 (ownL L k)) ∧ Below w.heap.size w w' := by
  have HS := Lib.hid (hS.below (below_al w (.cells #[.slice A L.length c, .int .i64 q] 28)))
  have c0 : (w.alloc (.cells #[.slice A L.length c, .int .i64 q] 28)).cell? ⟨w.heap.size, 0, none⟩ = some (.slice A L.length c) := by simp
  have HB := Lib.hid (below_al w (.cells #[.slice A L.length c, .int .i64 q] 28))
  clear hS
  unfold tbV
  by_cases h0 : k < 0
  · have HE := Lib.hid (ownL_out (L := L) (k := k) (.inl h0))
    generalize L.length = n at *
    go_enter Try.func18, Try.ntmps18
    go_wp2_with fail
    go_ret
    exact ⟨ret_int HE.out.symm, HB.out⟩
  · by_cases h1 : (L.length : Int) ≤ k
    · have HE := Lib.hid (ownL_out (L := L) (k := k) (.inr h1))
      have h0' : (0 : Int) ≤ k := by omega
      clear h0
      generalize L.length = n at *
      go_enter Try.func18, Try.ntmps18
      go_wp2_with fail
      go_ret
      exact ⟨ret_int HE.out.symm, HB.out⟩
    · obtain ⟨j, rfl⟩ : ∃ j : Nat, k = j := ⟨k.toNat, by omega⟩
      have hj : j < L.length := by omega
      have HE := Lib.hid (ownL_at hj)
      obtain ⟨b, off, rfl, hb, hx⟩ := HS.out.int hj
      have hk0 : (0 : Int) ≤ (j : Int) := by omega
      have hk1 : (j : Int) < ((L.length : Nat) : Int) := by omega
      clear h0 h1 HS
      generalize L[j] = x at *
      clear hj
      generalize L.length = n at *
      go_enter Try.func18, Try.ntmps18
      go_wp2_with fail
      go_ret
      exact ⟨ret_int HE.out.symm, HB.out⟩
theorem freeL_take {k : Nat} (h : k < L.length) : freeL (L.take (k + 1)) = (freeL (L.take k) && decide (L[k] < 0)) := by
  unfold freeL
  rw [List.take_succ_eq_append_getElem h, List.all_append, List.all_cons, List.all_nil, Bool.and_true]
set_option maxRecDepth 100000 in
set_option maxHeartbeats 1000000 in
theorem rfree14_any (_ : L.length ≤ 1000) (hS : SlAt encI 1 w A L) :
    Calls Try.prog 23 #[tbV A L.length c q] w fun e w' => e = .returned (.bool (freeL L)) ∧ Below w.heap.size w w' := by
  have HS := Lib.hid (hS.below (below_al w (.cells #[.slice A L.length c, .int .i64 q] 28)))
  have c0 : (w.alloc (.cells #[.slice A L.length c, .int .i64 q] 28)).cell? ⟨w.heap.size, 0, none⟩ = some (.slice A L.length c) := by simp
  have HB := Lib.hid (below_al w (.cells #[.slice A L.length c, .int .i64 q] 28))
  clear hS
  unfold tbV
  go_enter Try.func23, Try.ntmps23
  go_wp2_with fail
  generalize hw1 : w.alloc _ = w1 at *
  clear hw1
  go_loopw [3] (fun i wr => ∃ k : Nat, k ≤ L.length ∧ i = .int .i64 k ∧ Hid (freeL (L.take k) = true) ∧ w1 = wr) (fun i _ => L.length - (intOf i).toNat)
  case atStart => exact ⟨0, Nat.zero_le _, rfl, Lib.hid rfl, rfl⟩
  case round =>
    obtain ⟨k, hk, rfl, hF, rfl⟩ := hrel
    by_cases hlt : k < L.length
    · obtain ⟨b, off, rfl, hb, hx⟩ := HS.out.int hlt
      have hk0 : (0 : Int) ≤ (k : Int) := by omega
      have hk1 : (k : Int) < ((L.length : Nat) : Int) := by omega
      have HT := Lib.hid (freeL_take hlt)
      by_cases hf : L[k] < 0
      · have HR := Lib.hid (show freeL (L.take (k + 1)) = true by rw [HT.out, hF.out, decide_eq_true hf]; rfl)
        have hn : ¬ (0 : Int) ≤ L[k] := by omega
        clear HT hf
        generalize L[k] = x at *
        go_wp2_with fail
        go_roundw
        case rel => exact ⟨k + 1, by omega, by go_num, HR, trivial⟩
        case measure => simp [intOf]; omega
      · have HR := Lib.hid (show freeL L = false by
          unfold freeL
          rw [List.all_eq_false]
          exact ⟨L[k], List.getElem_mem hlt, by simpa using hf⟩)
        have hn : (0 : Int) ≤ L[k] := by omega
        clear HT hf
        generalize L[k] = x at *
        go_wp2_with fail
        go_ret
        exact ⟨ret_bool HR.out.symm, HB.out⟩
    · obtain rfl : k = L.length := by omega
      rw [List.take_length] at hF
      go_wp2_with fail
      go_ret
      exact ⟨ret_bool hF.out.symm, HB.out⟩
end
/-- A table of the reference in a block of its own. -/
def Row2 (W : World) (b : Nat) (v : Value) : Prop := W.heap[b]? = some (.cells #[v, .int .i64 0] 28)
section
variable {W W' : World} {b b' B n o : Nat} {v u : Value} {xs : List Value}
theorem Row2.lt (h : Row2 W b v) : b < W.heap.size := (Array.getElem?_eq_some_iff.1 h).1
theorem Row2.cells (h : Row2 W b v) : W.cell? ⟨b, 0, none⟩ = some v ∧ W.cell? ⟨b, 1, none⟩ = some (.int .i64 0) := ⟨cell_of_row _ _ 0 _ _ _ h, cell_of_row _ _ 1 _ _ _ h⟩
theorem Row2.fz (h : Row2 W b v) : W.frozen? ⟨b, 0, none⟩ = false := Joins.unfrozen_of_block h 0
theorem Row2.fz1 (h : Row2 W b v) : W.frozen? ⟨b, 1, none⟩ = false := Joins.unfrozen_of_block h 1
theorem Row2.past (h : Row2 W b v) (x : Obj) : Row2 (W.alloc x) b v := (Below.heap_alloc _ _ _ h.lt).trans h
theorem Row2.st (h : Row2 W b v) (u : Value) : Row2 (W.setCell ⟨b, 0, none⟩ u) b u := by
  have := Joins.block_setCell (i := 0) h u
  simp at this
  exact this
theorem Row2.st1 (h : Row2 W b v) : Row2 (W.setCell ⟨b, 1, none⟩ (.int .i64 0)) b v := by
  have := Joins.block_setCell (i := 1) h (.int .i64 0)
  simp at this
  exact this
theorem Row2.other (h : Row2 W b v) (u : Value) (hne : b ≠ b') : Row2 (W.setCell ⟨b', 0, none⟩ u) b v :=
  ((grown_setCell W b' 0 u).block b h.lt (by simpa using hne)).trans h
theorem own_other {T : TypeId} (h : W.ownsRow B T 1 v n xs) (u : Value) (hb : b < B) : (W.setCell ⟨b, o, none⟩ u).ownsRow B T 1 v n xs := by
  refine h.kept (grown_setCell W b o u) ?_
  by_cases e : v.ownBlock = none
  · exact .inl e
  · obtain ⟨k, hk⟩ := Option.ne_none_iff_exists'.1 e
    right
    rw [hk]
    intro e2
    have := (h.lt k hk).1
    have := Option.some.inj e2
    omega
theorem Row2.app (h : Row2 W b u) (ho : W.ownsRow B 3 1 v n xs) (hg : W.grownBy W' v.ownBlock) : Row2 W' b u := by
  refine (hg.block b h.lt fun e2 => ?_).trans h
  rcases ho.2 with ⟨h1, _⟩ | ⟨g, cap, cur, h1, hb, h3, _⟩
  · rw [h1] at e2
    cases e2
  · rw [h1] at e2
    have e3 : b = g := Option.some.inj e2
    subst e3
    unfold Row2 at h
    rw [h] at h3
    injection h3 with h3
    injection h3 with _ h4
    exact absurd h4 (by decide)
end
set_option maxRecDepth 100000 in
set_option maxHeartbeats 1000000 in
theorem rnew14_any (n : Nat) (hn : n ≤ 1000) (w : World) :
    Calls Try.prog 11 #[.int .i64 (n : Int)] w fun e w' => ∃ A c, e = .returned (tbV A n c 0) ∧ w'.ownsRow w.heap.size 3 1 (.slice A n c) n (flatL encI (List.replicate n (-1))) ∧ Below w.heap.size w w' := by
  obtain ⟨i0, hi, hz0, hz1, hz2⟩ := info_parts infoI14
  unfold tbV
  go_enter Try.func11, Try.ntmps11
  go_wp2_with fail
  have X0 := Lib.hid (show Row2 ((w.alloc (.cells #[.slice none 0 0, .int .i64 0] 28)).alloc (.cells #[.slice none 0 0, .int .i64 0] 28)) w.heap.size (.slice none 0 0) from (Below.heap_alloc _ _ _ (by simp)).trans (heap_alloc_new _ _))
  have X1 := Lib.hid (show Row2 ((w.alloc (.cells #[.slice none 0 0, .int .i64 0] 28)).alloc (.cells #[.slice none 0 0, .int .i64 0] 28)) (w.heap.size + 1) (.slice none 0 0) from heap_new1 _ _ (by simp))
  have HB0 := Lib.hid (below_next (below_al w (.cells #[.slice none 0 0, .int .i64 0] 28)) (below_al (w.alloc (.cells #[.slice none 0 0, .int .i64 0] 28)) (.cells #[.slice none 0 0, .int .i64 0] 28)))
  have hz : w.heap.size + 2 ≤ ((w.alloc (.cells #[.slice none 0 0, .int .i64 0] 28)).alloc (.cells #[.slice none 0 0, .int .i64 0] 28)).heap.size := by simp
  generalize (w.alloc _).alloc _ = w1 at *
  generalize hp : w.heap.size = p at *
  have HP := Lib.hid hp
  clear hp
  go_loopw [4] (fun i wr => ∃ (k : Nat) (v : Value), k ≤ n ∧ i = .int .i64 k ∧ Hid (Row2 wr p (.slice none 0 0)) ∧ Hid (Row2 wr (p + 1) v) ∧ Hid (wr.ownsRow (p + 2) 3 1 v k (flatL encI (List.replicate k (-1)))) ∧ Hid (Below p w wr) ∧ p + 2 ≤ wr.heap.size) (fun i _ => n - (intOf i).toNat)
  case atStart => exact ⟨0, _, Nat.zero_le _, rfl, X0, X1, Lib.hid (World.ownsRow_nil _ _ _ _), HB0, hz⟩
  case round =>
    obtain ⟨k, v, hk, rfl, Y0, Y1, HR, HB, hzr⟩ := hrel
    clear X0 X1 HB0 hz
    obtain ⟨A, c, rfl⟩ := own_any HR.out
    obtain ⟨e0, e1⟩ := Y1.out.cells
    have e2 := Y1.out.fz
    by_cases hlt : k < n
    · have HRW := Lib.hid (HR.out.alloc (.cells #[.int .i64 (-1)] 3))
      have hl1 := Y1.out.lt
      have hl0 := Y0.out.lt
      go_wp2_with (at_builtin; refine wpList_append_own _ rfl _ _ 26 rfl (p + 2) 3 i0 _ 1 8 Try.underlying26 hi hz0 hz1 hz2 rfl (by decide) _ _ _ rfl HRW.out ⟨wr.heap.size, 0, none⟩ 1 1 [.int .i64 (-1)] rfl rfl (cells_oneK rfl _ _) (by intro u hu; simp at hu; subst hu; rfl) (by unfold maxLen; omega) (by omega) (by simp; omega) ?_; intro v' wz hown' hgrow _; obtain ⟨A3, c3, rfl⟩ := own_any hown'; have Z1 := (Y1.out.past (.cells #[.int .i64 (-1)] 3)).app HRW.out hgrow; obtain ⟨f0, -⟩ := Z1.cells; have f1 := Z1.fz)
      have Z0 := Lib.hid (((Y0.out.past (.cells #[.int .i64 (-1)] 3)).app HRW.out hgrow).other (.slice A3 (k + 1) c3) (by omega : p ≠ p + 1))
      have Z1' := Lib.hid (Z1.st (.slice A3 (k + 1) c3))
      have HO := Lib.hid (own_other (o := 0) hown' (.slice A3 (k + 1) c3) (show p + 1 < p + 2 by omega))
      have hb1 := HB.out.alloc (by omega) (.cells #[.int .i64 (-1)] 3)
      have hb2 := hb1.grown hgrow (by simp; omega) (fun k hk => by have := (HRW.out.lt k hk).1; omega)
      have hs2 : p + 2 ≤ wz.heap.size := by have := hgrow.size; simp at this; omega
      have HB2 := Lib.hid (hb2.grown (grown_setCell wz (p + 1) 0 (.slice A3 (k + 1) c3)) (by omega) (fun k hk => by cases hk; omega))
      clear hb1 hb2 hown' hgrow Z1 f0 f1
      go_roundw
      case rel => exact ⟨k + 1, _, by omega, by go_num, Z0, Z1', Lib.hid (by rw [List.replicate_succ', flatL_append]; exact HO.out), HB2, by simpa using hs2⟩
      case measure => simp [intOf]; omega
    · obtain rfl : k = n := by omega
      obtain ⟨g0, g1⟩ := Y0.out.cells
      have g2 := Y0.out.fz
      have g3 := Y0.out.fz1
      have W2 := Lib.hid (show Row2 ((wr.setCell ⟨p, 0, none⟩ (.slice A k c)).setCell ⟨p, 1, none⟩ (.int .i64 0)) p (.slice A k c) from (Y0.out.st (.slice A k c)).st1)
      have KB := Lib.hid ((HB.out.grown (grown_setCell wr p 0 (.slice A k c)) (by omega) (fun k hk => by cases hk; exact Nat.le_refl _)).grown (grown_setCell _ p 1 (.int .i64 0)) (by simp; omega) (fun k hk => by cases hk; exact Nat.le_refl _))
      have HO := Lib.hid (own_mono (own_other (b := p) (own_other (b := p) (o := 0) HR.out (.slice A k c) (by omega)) (o := 1) (.int .i64 0) (by omega)) (show p ≤ p + 2 by omega))
      clear Y0 Y1 HR HB
      go_wp2_with fail
      clear e0 e1 e2 g0 g1 g2 g3
      generalize World.setCell (World.setCell _ _ _) _ _ = w9 at *
      obtain ⟨d0, d1⟩ := W2.out.cells
      refine bodyPost_ret (v := .agg #[.slice A k c, .int .i64 0]) ?_ rfl ?_
      · simp [results, Try.results11, go_sem, d0, d1]
      · exact ⟨A, c, rfl, by rw [HP.out]; exact HO.out, by rw [HP.out]; exact KB.out⟩
end Go.Proofs.Ytpfplniokjkcbaa
