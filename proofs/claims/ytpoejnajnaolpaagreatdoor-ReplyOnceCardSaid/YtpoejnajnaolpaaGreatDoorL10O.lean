/- Law 10: ReplyOnce. -/
import Derived.Test.YtpoejnajnaolpaaGreatDoorRpAlive
import Derived.Test.YtpoejnajnaolpaaGreatDoorGj
import Derived.Test.YtpoejnajnaolpaaGreatDoorRsRefV4
import Derived.Test.YtpoejnajnaolpaaGreatDoorEqB
import Derived.Test.YtpoejnajnaolpaaGreatDoorRpSm
namespace Go.Proofs.YtpoejnajnaolpaaGreatDoor
open Go.RowKit

set_option maxRecDepth 100000 in
set_option maxHeartbeats 4000000 in
theorem replyOnce_any (A : Option Addr) (c : Nat) (l : List UInt8) (hl : l.length ≤ maxLen) (w : World) (henv : Env w) (hA : ByAt w.heap.size w A c l) :
    Calls Tryz.prog 6 #[.slice A l.length c] w fun e w' => e = .returned (.bool true) ∧ Below w.heap.size w w' := by
  have AL := Lib.hid (fun W (h : Below w.heap.size w W) => alive10_any W (henv.below h))
  unfold maxLen at hl
  by_cases hbig : 2000 < l.length
  · have AL := Lib.hid (AL.out w (Below.refl _ _))
    have d1 : decide (2000 < (l.length : Int)) = true := by simp; omega
    clear hA henv
    generalize l.length = n at *
    go_enter Tryz.func6, Tryz.ntmps6
    go_wp2_with fail
    refine AL.out.mono ?_
    rintro e w2 ⟨rfl, hb⟩
    go_wp2_with fail
    go_ret
    exact ⟨rfl, hb⟩
  · have d1 : decide (2000 < (l.length : Int)) = false := by simp; omega
    have PA := Lib.hid (parse_any _ c l.length A l 0 (by omega) (by omega) rfl (by omega) w henv hA)
    have HE := Lib.hid (fun W (h : Below w.heap.size w W) => henv.below h)
    have HA := Lib.hid hA
    have HS := Lib.hid (show l.length ≤ 2000 by omega)
    have hle := hA.le
    obtain ⟨n, hn⟩ : ∃ n, l.length = n := ⟨_, rfl⟩
    have HN := Lib.hid hn
    rw [hn] at PA hle d1 ⊢
    clear hA henv hl hbig hn
    go_enter Tryz.func6, Tryz.ntmps6
    go_wp2_with fail
    refine PA.out.mono ?_
    rintro e w1 ⟨hq, hb1⟩
    have HB1 := Lib.hid hb1
    unfold PaPo at hq
    rcases hq with ⟨r, A2, c2, m, hin, hrp, hm, hml, rfl, hby, -⟩ | ⟨hno, rfl⟩
    · obtain ⟨hri, hok, t, ht⟩ := hrp
      replace ht : l = rsForm r ++ t := ht
      replace hm : m = (rsForm r).length := by rw [hm]; show 0 + _ = _; omega
      have hsm := form_sm hok (by rw [← hm]; have := HS.out; omega)
      have HTK := Lib.hid (show l.take m = rsForm r by rw [hm, ht, List.take_left])
      have hm0 : 0 < m := by rw [hm]; have := form_long r; omega
      have hmn : m ≤ n := by rw [← HN.out]; exact hml
      have HM := Lib.hid hm
      have BX := RsBox.new w1 r A2 c2
      have HAL := Lib.hid (below_al w1 (.cells #[.int .i64 r.kind, .int .u32 (r.n : Int), .string ⟨r.tag.toArray⟩, .int .i64 r.status, .string ⟨r.text.toArray⟩, .int .i64 r.items, .int .u8 (r.flags : Int), .int .u32 (r.uid : Int), .int .u32 (r.size : Int), .slice A2 r.body.length c2] 27))
      have HBY := Lib.hid hby
      have PN := Lib.hid (fun W (hW : Below w1.heap.size w1 W) => print9_any r hri hsm A2 c2 W (HE.out W (below_next HB1.out hW)) (HBY.out.below hW).here)
      have RV := Lib.hid (fun W (hW : Below w1.heap.size w1 W) => rvalid9_any r hri hsm A2 c2 W (HBY.out.below hW).here)
      have HOK := Lib.hid hok
      have HBX := Lib.hid BX
      have HVA : Hid (∀ W, RsBox w1.heap.size r A2 c2 W → (Instr.loadAt 27 (.pointer (some ⟨w1.heap.size, 0, none⟩))).run Tryz.prog W = .ok (rsV r A2 c2) W) := Lib.hid (fun W h => h.load)
      clear hin hm hml hby hri hok ht hsm BX PA hb1
      unfold rsV at PN RV HVA
      unfold rsV
      have hsl := fun W => slice_h A n c m (by omega) W
      have hse := fun x lo hi mx W => sliceAt_eq x lo hi mx W
      go_upto_region 6 with (fail)
      generalize w1.alloc (.cells #[.int .i64 r.kind, .int .u32 (r.n : Int), .string ⟨r.tag.toArray⟩, .int .i64 r.status, .string ⟨r.text.toArray⟩, .int .i64 r.items, .int .u8 (r.flags : Int), .int .u32 (r.uid : Int), .int .u32 (r.size : Int), .slice A2 r.body.length c2] 27) = W3 at *
      have l3 := HVA.out W3 HBX.out
      obtain ⟨x0, x1, x2, x3, x4, x5, x6, x7, x8, x9⟩ := HBX.out.cells
      have HB3 := Lib.hid (below_next HB1.out HAL.out)
      go_wp2_with fail
      refine (PN.out _ HAL.out).mono ?_
      rintro e w4 hp
      unfold PnPost at hp
      rcases hp with ⟨-, A4, c4, rfl, hy4, hb4⟩ | ⟨hf, -, -⟩
      · have HB4 := Lib.hid (below_next HB3.out hb4)
        have HAL4 := Lib.hid (below_next HAL.out hb4)
        have BX4 := Lib.hid (HBX.out.below hb4)
        have HY4 := Lib.hid hy4
        rw [← HM.out]
        have AL := Lib.hid (AL.out w4 HB4.out)
        clear hb4 hy4 x0 x1 x2 x3 x4 x5 x6 x7 x8 x9 l3
        go_wp2_with fail
        refine AL.out.mono ?_
        rintro e w5 ⟨rfl, hb5⟩
        have HB5 := Lib.hid (below_next HB4.out hb5)
        have HAL5 := Lib.hid (below_next HAL4.out hb5)
        have BX5 := Lib.hid (BX4.out.below hb5)
        have EQ := Lib.hid (equalB_any _ _ A4 A c4 c m m (rsForm r) (l.take m) HM.out.symm (by rw [HTK.out, HM.out]) (by have := HS.out; have := HN.out; omega) (by have := HS.out; have := HN.out; omega) w5 (HY4.out.below hb5) ((HA.out.below HB5.out).take (by rw [HN.out]; exact hmn)))
        rw [HTK.out, decide_eq_true rfl] at EQ
        have g1 : decide ((m : Int) ≤ (n : Int)) = true := by simp; omega
        have g2 : decide (0 < (m : Int)) = true := by simp; omega
        clear hb5 AL
        go_wp2_with fail
        refine EQ.out.mono ?_
        rintro e w6 ⟨rfl, hb6⟩
        have HB6 := Lib.hid (below_next HB5.out hb6)
        have HAL6 := Lib.hid (below_next HAL5.out hb6)
        have BX6 := Lib.hid (BX5.out.below hb6)
        have l6 := HVA.out w6 BX6.out
        obtain ⟨x0, x1, x2, x3, x4, x5, x6, x7, x8, x9⟩ := BX6.out.cells
        clear hb6 EQ
        go_wp2_with fail
        refine (RV.out _ HAL6.out).mono ?_
        rw [HOK.out]
        rintro e w7 ⟨rfl, hb7⟩
        have HB7 := Lib.hid (below_next HB6.out hb7)
        clear hb7
        go_wp2_with fail
        go_ret
        exact ⟨rfl, HB7.out⟩
      · rw [HOK.out] at hf
        cases hf
    · have HAL := Lib.hid (below_al w1 (.cells (encRx ⟨rsZero, none, 0⟩).toArray 27))
      have HB2 := Lib.hid (below_next HB1.out HAL.out)
      have AL := Lib.hid (AL.out _ HB2.out)
      clear hno PA hb1
      unfold encRx at HAL HB2 AL
      unfold rsV
      go_wp2_with fail
      refine AL.out.mono ?_
      rintro e w3 ⟨rfl, hb3⟩
      have HB3 := Lib.hid (below_next HB2.out hb3)
      clear hb3 AL
      go_wp2_with fail
      go_ret
      exact ⟨rfl, HB3.out⟩
end Go.Proofs.YtpoejnajnaolpaaGreatDoor
