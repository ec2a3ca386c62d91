/- The reference of layer 14: New, Held, Owner, Free, Blocked. -/
import Derived.Test.YtpfplniokjkcbaaLk
import Derived.WalkKit
import Derived.RegionTactic
import Derived.BigRegion
import Derived.BigQuiet
import Derived.Deep.QuietTactic
namespace Go.Proofs.Ytpfplniokjkcbaa
open Go.RowKit

section
variable {A : Option Addr} {c : Nat} {q : Int} {L : List Int} {w : World}
/-- The reference's table as a value. -/
def tbV (A : Option Addr) (n c : Nat) (q : Int) : Value := .agg #[.slice A n c, .int .i64 q]
theorem cells_oneK {W : World} {b : Nat} (hb : b = W.heap.size) (x : Value) (T : TypeId) : ∀ (j : Nat) (u : Value), [x][j]? = some u → (W.alloc (.cells #[x] T)).cell? ((⟨b, 0, none⟩ : Addr).add j) = some u := by
  subst hb
  intro j u hj
  rw [Addr.add_lit]
  match j, hj with
  | 0, hj => simp at hj; subst hj; simp
set_option maxRecDepth 100000 in
set_option maxHeartbeats 1000000 in
theorem rheld14_any (o : Int) (hl : L.length ≤ 1000) (hS : SlAt encI 1 w A L) :
    Calls Try.prog 21 #[tbV A L.length c q, .int .i64 o] w fun e w' => ∃ v, e = .returned v ∧ w'.ownsRow w.heap.size 3 1 v (heldL L o).length (flatL encK (heldL L o)) ∧ Below w.heap.size w w' := by
  obtain ⟨i0, hi, hz0, hz1, hz2⟩ := info_parts infoI14
  have HS := Lib.hid (hS.below (below_al w (.cells #[.slice A L.length c, .int .i64 q] 28)))
  have HB := Lib.hid (below_al w (.cells #[.slice A L.length c, .int .i64 q] 28))
  have c0 : (w.alloc (.cells #[.slice A L.length c, .int .i64 q] 28)).cell? ⟨w.heap.size, 0, none⟩ = some (.slice A L.length c) := by simp
  have hz : w.heap.size < (w.alloc (.cells #[.slice A L.length c, .int .i64 q] 28)).heap.size := by simp
  clear hS
  unfold tbV
  by_cases ho : o < 0
  · have hh : ¬ (0 : Int) ≤ o := by omega
    have HE := Lib.hid (show heldL L o = [] from if_pos ho)
    by_cases h0 : L.length = 0
    · have hd : decide ((0 : Int) < ((L.length : Nat) : Int)) = false := by rw [h0]; rfl
      generalize L.length = n at *
      go_enter Try.func21, Try.ntmps21
      go_wp2_with fail
      refine wp_loop_rounds 1 ?_
      rw [rounds_succ]
      go_wp2_with fail
      go_ret
      exact ⟨_, rfl, by rw [HE.out]; exact World.ownsRow_nil _ _ _ _, below_al _ _⟩
    · have hd : decide ((0 : Int) < ((L.length : Nat) : Int)) = true := by simp; omega
      generalize L.length = n at *
      go_enter Try.func21, Try.ntmps21
      go_wp2_with fail
      refine wp_loop_rounds 1 ?_
      rw [rounds_succ]
      go_wp2_with fail
      go_ret
      exact ⟨_, rfl, by rw [HE.out]; exact World.ownsRow_nil _ _ _ _, below_al _ _⟩
  · have hh : (0 : Int) ≤ o := by omega
    have HE := Lib.hid (show heldL L o = heldK L o L.length from if_neg ho)
    clear ho
    go_enter Try.func21, Try.ntmps21
    go_wp2_with fail
    generalize w.alloc _ = w1 at *
    generalize hp : w.heap.size = p at *
    have HP := Lib.hid hp
    clear hp
    go_loopw [5, 6] (fun v i wr => ∃ k : Nat, k ≤ L.length ∧ i = .int .i64 k ∧ Hid (wr.ownsRow w1.heap.size 3 1 v (heldK L o k).length (flatL encK (heldK L o k))) ∧ Hid (Below w1.heap.size w1 wr)) (fun _ i _ => L.length - (intOf i).toNat)
    case atStart => exact ⟨0, Nat.zero_le _, rfl, Lib.hid (World.ownsRow_nil _ _ _ _), Lib.hid (Below.refl _ _)⟩
    case round =>
      obtain ⟨k, hk, rfl, hrow, hB⟩ := hrel
      have d0 := (hB.out.cell (p := ⟨p, 0, none⟩) hz).trans c0
      by_cases hlt : k < L.length
      · have hd : decide ((k : Int) < ((L.length : Nat) : Int)) = true := by simp; omega
        obtain ⟨b, off, rfl, hb, hx⟩ := (HS.out.below hB.out).int hlt
        have HT := Lib.hid (heldK_succ (o := o) hlt)
        have hkl := heldK_len L o k
        obtain ⟨A', c', rfl⟩ := own_any hrow.out
        have hk0 : (0 : Int) ≤ (k : Int) := by omega
        have hk1 : (k : Int) < ((L.length : Nat) : Int) := by omega
        have hBs := hB.out.size
        by_cases he : L[k] = o
        · have HR := Lib.hid (show heldK L o (k + 1) = heldK L o k ++ [k] by rw [HT.out, if_pos he])
          rw [he] at hx
          clear HT he
          generalize heldK L o k = Q at *
          have HRW := Lib.hid (hrow.out.alloc (.cells #[.int .i64 (k : Int)] 3))
          clear c0
          go_wp2_with (at_builtin; refine wpList_append_own _ rfl _ _ 26 rfl w1.heap.size 3 i0 _ 1 8 Try.underlying26 hi hz0 hz1 hz2 rfl (by decide) _ _ _ rfl HRW.out ⟨wr.heap.size, 0, none⟩ 1 1 [.int .i64 (k : Int)] rfl rfl (cells_oneK rfl _ _) (by intro u hu; simp at hu; subst hu; rfl) (by unfold maxLen; omega) (by omega) (by simp; omega) ?_; intro v' wz hown' hgrow _; obtain ⟨A3, c3, rfl⟩ := own_any hown')
          have HB2 := Lib.hid ((hB.out.alloc hBs (.cells #[.int .i64 (k : Int)] 3)).grown hgrow (by simp; omega) (fun k hk => (hrow.out.lt k hk).1))
          have HO2 := Lib.hid hown'
          clear hown' hgrow
          go_roundw
          case rel => exact ⟨k + 1, by omega, by go_num, Lib.hid (by rw [HR.out, List.length_append, flatL_append]; exact HO2.out), HB2⟩
          case measure => simp [intOf]; omega
        · have HR := Lib.hid (show heldK L o (k + 1) = heldK L o k by rw [HT.out, if_neg he])
          have hb1 : (L[k] == o) = false := by simpa using he
          clear HT he
          generalize L[k] = x at *
          clear c0
          go_wp2_with fail
          go_roundw
          case rel => exact ⟨k + 1, by omega, by go_num, by rw [HR.out]; exact hrow, hB⟩
          case measure => simp [intOf]; omega
      · obtain rfl : k = L.length := by omega
        have hd : decide (((L.length : Nat) : Int) < ((L.length : Nat) : Int)) = false := by simp
        have hrow2 := Lib.hid (own_mono hrow.out (show p ≤ w1.heap.size by omega))
        rw [← HE.out] at hrow2
        have HF := Lib.hid (HB.out.trans (hB.out.mono (show p ≤ w1.heap.size by omega)))
        clear hrow hB c0
        go_wp2_with fail
        go_ret
        exact ⟨_, rfl, by rw [HP.out]; exact hrow2.out, by rw [HP.out]; exact HF.out⟩
end
end Go.Proofs.Ytpfplniokjkcbaa
