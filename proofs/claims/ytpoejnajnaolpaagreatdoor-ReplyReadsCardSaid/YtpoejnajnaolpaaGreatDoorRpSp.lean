/- reply: the bytes of a class; a number. -/
import Derived.Test.YtpoejnajnaolpaaGreatDoorRpRd
import Derived.Test.YtpoejnajnaolpaaGreatDoorGn
import Derived.Test.YtpoejnajnaolpaaGreatDoorGb
namespace Go.Proofs.YtpoejnajnaolpaaGreatDoor
open Go.RowKit

theorem span_snoc {l : List UInt8} {p : UInt8 → Bool} {k : Nat} (h : k < l.length) (ha : (l.take k).all p = true) (hp : p l[k] = true) : (l.take (k + 1)).all p = true := by
  rw [List.take_succ_eq_append_getElem h, List.all_append, ha, List.all_cons, hp]
  rfl

set_option maxRecDepth 100000 in
set_option maxHeartbeats 4000000 in
theorem span_any (F : FuncId) (p : UInt8 → Bool) (hF : ∀ (x : UInt8) W, Calls Tryz.prog F #[.int .u8 (x.toNat : Int)] W fun e w' => e = .returned (.bool (p x)) ∧ Below W.heap.size W w')
    (hE : ∀ args w, (callFunc F args).run Tryz.prog w = .ok (.enter F args) w) (bb bp c kb : Nat) (A Ab : Option Addr) (l : List UInt8) (r : RI) (wh : Bool) (hl : l.length ≤ 1000000) (w : World) (h : Rp bb bp A c l r Ab kb wh w) :
    Calls Tryz.prog 58 #[.pointer (some ⟨bp, 0, none⟩), .func (Fn.func F) #[] #[]] w fun e w' => e = .returned (.string ⟨(l.takeWhile p).toArray⟩) ∧ (∃ A' c', Hid (Rp bb bp A' c' (l.drop (l.takeWhile p).length) r Ab kb wh w')) ∧ Rk bb bp w w' := by
  have HF := Lib.hid hF
  have c0 := h.cells.1
  obtain ⟨m, hm⟩ : ∃ m, l.length = m := ⟨_, rfl⟩
  have R0 := Lib.hid (rest0_any bb bp c kb A Ab l m r wh hm w h)
  have RN := Lib.hid (fun W k (hw : Rp bb bp A c l r Ab kb wh W) (hk : k ≤ m) => rest_any bb bp c kb k m A Ab l r wh hk hm W hw)
  have HM := Lib.hid hm
  have HBB := Lib.hid h.here.1
  have hle := h.lies.le
  have HLT := Lib.hid h.lt
  obtain ⟨q, hq⟩ : ∃ q, l.takeWhile p = q := ⟨_, rfl⟩
  rw [hq]
  have HQ := Lib.hid hq
  have hse := fun x lo hi mx W => sliceAt_eq x lo hi mx W
  rw [hm] at hl hle
  clear h hq hF hm
  go_enter Tryz.func58, Tryz.ntmps58
  go_wp2_with fail
  refine R0.out.mono ?_
  rintro e w1 ⟨rfl, h1, k1⟩
  clear c0 R0
  go_wp2_with fail
  go_loopw [6] (fun i wr => ∃ k : Nat, k ≤ m ∧ i = .int .i64 (k : Int) ∧ Hid ((l.take k).all p = true) ∧ Hid (Below w1.heap.size w1 wr)) (fun i _ => m - (intOf i).toNat)
  case atStart => exact ⟨0, Nat.zero_le _, rfl, Lib.hid rfl, Lib.hid (Below.refl _ _)⟩
  case round =>
    obtain ⟨k, hk, rfl, hD, hB⟩ := hrel
    have hR := Lib.hid (h1.out.grow hB.out)
    have c0 := hR.out.cells.1
    have FIN := Lib.hid (fun (wr' : World) (hb' : Below wr.heap.size wr wr') (hend : ∀ hh : k < l.length, p l[k] = false) => show Hid (q = l.take k) ∧ Hid (Rp bb bp A c l r Ab kb wh wr') ∧ Hid (Rk bb bp w wr') from by
      have hqe : q = l.take k := by rw [← HQ.out]; exact takeWhile_at l k (by rw [HM.out]; exact hk) hD.out hend
      exact ⟨hqe, hR.out.grow hb', k1.trans (Rk.of_below (below_next hB.out hb'))⟩)
    have hsl := fun W => slice_h A m c k (by omega) W
    have CV := Lib.hid (fun (W : World) (hby : ByAt bb W A c l) (hqe : q = l.take k) => convS bb W A c k q (by rw [hqe]; exact hby.take (by rw [HM.out]; exact hk)) (by rw [hqe, List.length_take, HM.out]; omega))
    by_cases hlt : k < m
    · have hlx : k < l.length := by rw [HM.out]; exact hlt
      obtain ⟨b, off, rfl, -, -, hc⟩ := hR.out.lies.cell hlx
      have d1 : decide ((k : Int) < (m : Int)) = true := by simp; omega
      have hk0 : (0 : Int) ≤ (k : Int) := by omega
      have hk1 : (k : Int) < (m : Int) := by omega
      have C := Lib.hid (HF.out l[k] wr)
      cases hp : p l[k] with
      | true =>
        have HN := Lib.hid (span_snoc hlx hD.out hp)
        rw [hp] at C
        clear hp FIN CV hsl
        generalize l[k].toNat = x at *
        go_wp2_with fail
        refine C.out.mono ?_
        rintro e w2 ⟨rfl, hb2⟩
        have HB2 := Lib.hid (below_next hB.out hb2)
        clear hb2 C
        go_wp2_with fail
        go_roundw
        case rel => exact ⟨k + 1, by omega, by go_num, HN, HB2⟩
        case measure => simp [intOf]; omega
      | false =>
        have FIN := Lib.hid (fun wr' hb' => FIN.out wr' hb' (fun _ => hp))
        rw [hp] at C
        clear hp
        generalize l[k].toNat = x at *
        go_wp2_with fail
        refine C.out.mono ?_
        rintro e w2 ⟨rfl, hb2⟩
        obtain ⟨hqe, h2, k2⟩ := FIN.out w2 hb2
        have RN := Lib.hid (RN.out w2 k h2.out hk)
        have c2 := h2.out.cells.1
        have HBY := Lib.hid h2.out.lies
        have HSZ := Lib.hid h2.out.here.1
        clear hb2 C c0 hc FIN
        go_wp2_with fail
        refine RN.out.mono ?_
        rintro e w3 ⟨rfl, h3, k3⟩
        have CV := CV.out w3 (HBY.out.below (k3.below (Nat.le_refl _) HLT.out (Nat.le_of_lt HSZ.out))) hqe.out
        have K3 := Lib.hid (k2.out.trans k3)
        have HX := Lib.hid (show q.length = k by rw [hqe.out, List.length_take, HM.out]; omega)
        clear k3 RN c2 HBY hqe
        go_wp2_with fail
        go_ret
        exact ⟨rfl, ⟨_, _, by rw [HX.out]; exact h3⟩, K3.out⟩
    · have d1 : decide ((k : Int) < (m : Int)) = false := by simp; omega
      obtain ⟨hqe, h2, k2⟩ := FIN.out wr (Below.refl _ _) (fun hh => absurd hh (by rw [HM.out]; exact hlt))
      have RN := Lib.hid (RN.out wr k h2.out hk)
      have HBY := Lib.hid h2.out.lies
      have HSZ := Lib.hid h2.out.here.1
      clear FIN HF
      go_wp2_with fail
      refine RN.out.mono ?_
      rintro e w3 ⟨rfl, h3, k3⟩
      have CV := CV.out w3 (HBY.out.below (k3.below (Nat.le_refl _) HLT.out (Nat.le_of_lt HSZ.out))) hqe.out
      have K3 := Lib.hid (k2.out.trans k3)
      have HX := Lib.hid (show q.length = k by rw [hqe.out, List.length_take, HM.out]; omega)
      clear k3 RN HBY hqe
      go_wp2_with fail
      go_ret
      exact ⟨rfl, ⟨_, _, by rw [HX.out]; exact h3⟩, K3.out⟩

set_option maxRecDepth 100000 in
theorem digF_any (x : UInt8) (W : World) : Calls Tryz.prog 105 #[.int .u8 (x.toNat : Int)] W fun e w' => e = .returned (.bool (isDig x)) ∧ Below W.heap.size W w' := by
  have hx : x.toNat ≤ 255 := by have := x.toNat_lt; omega
  have R := Lib.hid (show isDig x = (decide (48 ≤ x.toNat) && decide (x.toNat ≤ 57)) by unfold isDig; simp [Bool.decide_and])
  generalize x.toNat = n at *
  have a1 : decide ((48 : Int) ≤ (n : Int)) = decide (48 ≤ n) := by rw [decide_eq_decide]; omega
  have a2 : decide ((n : Int) ≤ 57) = decide (n ≤ 57) := by rw [decide_eq_decide]; omega
  cases h1 : decide (48 ≤ n) with
  | false =>
    rw [h1] at a1 R
    clear h1 a2
    go_enter Tryz.func105, Tryz.ntmps105
    go_wp2_with fail
    go_ret
    exact ⟨ret_bool R.out.symm, Below.refl _ _⟩
  | true =>
    rw [h1] at a1 R
    clear h1
    generalize decide (n ≤ 57) = d at *
    go_enter Tryz.func105, Tryz.ntmps105
    go_wp2_with fail
    go_ret
    exact ⟨ret_bool R.out.symm, Below.refl _ _⟩

/-- A number stored in the field at a place. -/
def rpU (i : Nat) (r : RI) (u : Nat) : RI := if i = 2 then { r with n := u } else if i = 8 then { r with uid := u } else { r with size := u }

set_option maxRecDepth 100000 in
set_option maxHeartbeats 2000000 in
theorem rdec_any (i : Nat) (hi : i = 2 ∨ i = 8 ∨ i = 9) (bb bp c kb : Nat) (A Ab : Option Addr) (l : List UInt8) (r : RI) (wh : Bool) (hl : l.length ≤ 1000000) (w : World) (henv : ∀ W, Rk bb bp w W → Env W) (h : Rp bb bp A c l r Ab kb wh w) :
    Calls Tryz.prog 82 #[.pointer (some ⟨bp, 0, none⟩), .pointer (some ⟨bp, i, none⟩)] w fun e w' => e = .returned (.bool (numOf (l.takeWhile isDig)).isSome) ∧
      (∃ A' c', Hid (Rp bb bp A' c' (l.drop (l.takeWhile isDig).length) (rpU i r ((numOf (l.takeWhile isDig)).getD 0)) Ab kb wh w')) ∧ Rk bb bp w w' := by
  have SP := Lib.hid (span_any 105 isDig digF_any (fun _ _ => rfl) bb bp c kb A Ab l r wh hl w h)
  have hlen : (l.takeWhile isDig).length ≤ 1000000 := Nat.le_trans (List.takeWhile_sublist _).length_le hl
  generalize l.drop (l.takeWhile isDig).length = l2 at *
  generalize l.takeWhile isDig = q at *
  have NU := Lib.hid (fun W (hW : Rk bb bp w W) => number_any ⟨q.toArray⟩ (by simp [ByteArray.size]; omega) W (henv W hW))
  have e9 : (ByteArray.mk q.toArray).data.toList = q := rfl
  rw [e9] at NU
  clear h henv hl hlen e9
  generalize numOf q = o at *
  go_enter Tryz.func82, Tryz.ntmps82
  go_wp2_with fail
  refine SP.out.mono ?_
  rintro e w1 ⟨rfl, ⟨A1, c1, h1⟩, k1⟩
  have NU := Lib.hid (NU.out w1 k1)
  have K1 := Lib.hid k1
  clear SP k1
  go_wp2_with fail
  refine NU.out.mono ?_
  rintro e w2 ⟨rfl, hb2⟩
  have h2 := Lib.hid (h1.out.grow hb2)
  have K2 := Lib.hid (K1.out.trans (Rk.of_below hb2))
  have f1 := Joins.unfrozen_of_block h2.out.blk i
  clear hb2 NU h1
  have KS := Lib.hid (fun v => K2.out.trans (Rk.of_bp (bb := bb) (grown_setCell w2 bp i v)))
  rcases hi with rfl | rfl | rfl
  · have HP := Lib.hid (h2.out.put (i := 2) (v := .int .u32 ((o.getD 0 : Nat) : Int)) (r' := rpU 2 r (o.getD 0)) (Ab' := Ab) (kb' := kb) (wh' := wh) (by rw [Joins.block_setCell h2.out.blk]; rfl) h2.out.body)
    have cc : w2.cell? ⟨bp, 2, none⟩ = some (.int .u32 (r.n : Int)) := cell_of_row _ _ 2 _ _ _ h2.out.blk
    go_wp2_with fail
    go_ret
    exact ⟨rfl, ⟨_, _, HP⟩, KS.out _⟩
  · have HP := Lib.hid (h2.out.put (i := 8) (v := .int .u32 ((o.getD 0 : Nat) : Int)) (r' := rpU 8 r (o.getD 0)) (Ab' := Ab) (kb' := kb) (wh' := wh) (by rw [Joins.block_setCell h2.out.blk]; rfl) h2.out.body)
    have cc : w2.cell? ⟨bp, 8, none⟩ = some (.int .u32 (r.uid : Int)) := cell_of_row _ _ 8 _ _ _ h2.out.blk
    go_wp2_with fail
    go_ret
    exact ⟨rfl, ⟨_, _, HP⟩, KS.out _⟩
  · have HP := Lib.hid (h2.out.put (i := 9) (v := .int .u32 ((o.getD 0 : Nat) : Int)) (r' := rpU 9 r (o.getD 0)) (Ab' := Ab) (kb' := kb) (wh' := wh) (by rw [Joins.block_setCell h2.out.blk]; rfl) h2.out.body)
    have cc : w2.cell? ⟨bp, 9, none⟩ = some (.int .u32 (r.size : Int)) := cell_of_row _ _ 9 _ _ _ h2.out.blk
    go_wp2_with fail
    go_ret
    exact ⟨rfl, ⟨_, _, HP⟩, KS.out _⟩
end Go.Proofs.YtpoejnajnaolpaaGreatDoor
