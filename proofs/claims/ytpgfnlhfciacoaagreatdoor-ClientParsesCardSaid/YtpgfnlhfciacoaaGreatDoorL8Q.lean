/- The law ClientParses, at all commands. -/
import Derived.Test.YtpgfnlhfciacoaaGreatDoorAlive8
import Derived.Test.YtpgfnlhfciacoaaGreatDoorGs
import Derived.Test.YtpgfnlhfciacoaaGreatDoorGx
import Derived.Test.YtpgfnlhfciacoaaGreatDoorGv
namespace Go.Proofs.YtpgfnlhfciacoaaGreatDoor
open Go.RowKit

/-- A text of few parts is short. -/
theorem few_text_len {a : CI} (hw : fewC a = true) (hv : validC a = true) (f0 : 0 ≤ a.flags) (hb : ∀ r ∈ a.set, r.1 ≤ 4294967295 ∧ r.2 ≤ 4294967295) : (textT a).length ≤ 8998 := by
  obtain ⟨lt, lm, ls, ld⟩ := fewC_all hw
  obtain ⟨v1, v2, v3, v4, v5, v6⟩ := validC_int hv
  have f1 := (validC_bd hv).2.2
  have h1 := verbZ_len a.kind
  have h2 := mboxT_len (b := a.mbox) (by omega)
  have h3 := printL_len8 hb
  have h4 := lit_len8 (b := a.data) (by omega)
  have h5 := listL_len8 (f := a.flags.toNat) (by omega)
  have h6 := itemsT_len8 (f := a.items.toNat) (by omega)
  have h7 := modeT_len8 a.mode.toNat a.silent
  unfold textT restT
  simp only [List.length_append, List.length_cons]
  repeat' split
  all_goals (simp only [List.length_append, List.length_cons, List.length_nil]; omega)

set_option maxRecDepth 100000 in
set_option maxHeartbeats 2000000 in
theorem clientParses_any (a : CI) (A1 A2 : Option Addr) (k1 k2 : Nat) (ok : CIok a) (w : World) (he : EnvB w.heap.size w) (s1 : SlAt encR 2 w A1 a.set) (s2 : ByAt w.heap.size w A2 k2 a.data) :
    Calls Tryz.prog 6 #[ciV a A1 A2 k1 k2] w fun e w' => e = .returned (.bool true) ∧ Below w.heap.size w w' := by
  have HX := Lib.hid (heap_alloc_new w (.cells #[.string ⟨a.tag.toArray⟩, .int .i64 a.kind, .string ⟨a.mbox.toArray⟩, .slice A1 a.set.length k1, .int .i64 a.items, .int .i64 a.mode, .bool a.silent, .int .u8 a.flags, .slice A2 a.data.length k2] 26))
  have HB := Lib.hid (below_al w (.cells #[.string ⟨a.tag.toArray⟩, .int .i64 a.kind, .string ⟨a.mbox.toArray⟩, .slice A1 a.set.length k1, .int .i64 a.items, .int .i64 a.mode, .bool a.silent, .int .u8 a.flags, .slice A2 a.data.length k2] 26))
  have HZ : Hid (_ = w.heap.size + 1) := Lib.hid (World.size_alloc w (.cells #[.string ⟨a.tag.toArray⟩, .int .i64 a.kind, .string ⟨a.mbox.toArray⟩, .slice A1 a.set.length k1, .int .i64 a.items, .int .i64 a.mode, .bool a.silent, .int .u8 a.flags, .slice A2 a.data.length k2] 26))
  have AL := Lib.hid (fun W (hW : Below w.heap.size w W) => alive8_any W ((he.below hW).mono hW.size))
  have FA := Lib.hid (fun W => few_any a A1 A2 k1 k2 W)
  cases hfw : fewC a with
  | false =>
    rw [hfw] at FA
    clear s1 s2 hfw he ok
    unfold ciV at *
    go_enter Tryz.func6, Tryz.ntmps6
    go_upto_region 1 with (fail)
    generalize w.alloc (.cells #[.string ⟨a.tag.toArray⟩, .int .i64 a.kind, .string ⟨a.mbox.toArray⟩, .slice A1 a.set.length k1, .int .i64 a.items, .int .i64 a.mode, .bool a.silent, .int .u8 a.flags, .slice A2 a.data.length k2] 26) = W2 at *
    obtain ⟨x0, x1, x2, x3, x4, x5, x6, x7, x8⟩ := cells9 HX.out
    go_wp2_with fail
    refine (FA.out _).mono ?_
    rintro e w3 ⟨rfl, hb3⟩
    have HB3 := Lib.hid (below_next HB.out hb3)
    clear x0 x1 x2 x3 x4 x5 x6 x7 x8 HX hb3
    go_wp2_with fail
    refine (AL.out _ HB3.out).mono ?_
    rintro e w4 ⟨rfl, hb4⟩
    go_wp2_with fail
    go_ret
    exact ⟨rfl, below_next HB3.out hb4⟩
  | true =>
    rw [hfw] at FA
    obtain ⟨lt, lm, ls, ld⟩ := fewC_all hfw
    have PR := Lib.hid (fun W (hW : Below w.heap.size w W) => cprint_any a A1 A2 k1 k2 ok.flags ok.ranges (by omega) (by omega) (by omega) (by omega) W ((he.below hW).mono hW.size) (s1.below hW) ((s2.below hW).mono hW.size))
    have HLN : Hid (validC a = true → (textT a).length ≤ 8998) := Lib.hid (fun hv => few_text_len hfw hv ok.flags.1 ok.ranges)
    have HTC : Hid (validC a = true → IsCmd (textT a) (cmOf a) true ∧ ciOf (cmOf a) = a) := Lib.hid (fun hv => text_cmd hv ok.flags.1 ok.ranges)
    have CA := Lib.hid (fun W (hW : Below w.heap.size w W) c A l (hl : List.length l ≤ 9000) (hA : ByAt W.heap.size W A c l) => command_any W.heap.size c A l hl W (he.below hW).env hA)
    have SA := Lib.hid (fun W (hW : Below w.heap.size w W) (d : Cmd) (hd : ciOf d = a) A3 k3 A4 k4 (l4 : d.data.length ≤ k4) (s3 : SlAt encR 2 W A3 d.set) (s4 : SlAt encB 1 W A4 d.data) => rsame_any (ciOf d) a A3 A4 A1 A2 _ k3 _ k4 _ k1 _ k2 rfl rfl rfl rfl (by rw [hd]; omega) (by rw [hd]; omega) (by omega) (by omega) W s3 (ByAt.of_sl s4 l4) (s1.below hW) ((s2.below hW).mono hW.size))
    clear s1 s2 hfw he ok lt lm ls ld
    unfold ciV at *
    go_enter Tryz.func6, Tryz.ntmps6
    go_upto_region 1 with (fail)
    generalize w.alloc (.cells #[.string ⟨a.tag.toArray⟩, .int .i64 a.kind, .string ⟨a.mbox.toArray⟩, .slice A1 a.set.length k1, .int .i64 a.items, .int .i64 a.mode, .bool a.silent, .int .u8 a.flags, .slice A2 a.data.length k2] 26) = W2 at *
    obtain ⟨x0, x1, x2, x3, x4, x5, x6, x7, x8⟩ := cells9 HX.out
    go_wp2_with fail
    refine (FA.out _).mono ?_
    rintro e w3 ⟨rfl, hb3⟩
    have HB3 := Lib.hid (below_next HB.out hb3)
    have HX3 := Lib.hid ((hb3.block w.heap.size (by have := HZ.out; omega)).trans HX.out)
    have HZ3 := Lib.hid (show w.heap.size < w3.heap.size by have := HZ.out; have := hb3.size; omega)
    clear x0 x1 x2 x3 x4 x5 x6 x7 x8 HX hb3 FA HB HZ
    obtain ⟨x0, x1, x2, x3, x4, x5, x6, x7, x8⟩ := cells9 HX3.out
    go_wp2_with fail
    refine (PR.out _ HB3.out).mono ?_
    rintro e w4 (⟨⟨hv, _⟩, A, c, rfl, hy, hb4⟩ | ⟨_, rfl, hb4⟩)
    · obtain ⟨T, hT⟩ : ∃ T, textT a = T := ⟨_, rfl⟩
      have hTC := HTC.out hv
      have hLN := HLN.out hv
      rw [hT] at hTC hLN hy ⊢
      have HTC2 := Lib.hid hTC
      obtain ⟨m, hm⟩ : ∃ m, T.length = m := ⟨_, rfl⟩
      have hn : (T ++ [13, 10]).length = m + 2 := by rw [List.length_append, hm]; rfl
      rw [hn]
      rw [hm] at hLN
      have hle := hy.le
      rw [hn] at hle
      have hy2 := hy.take (hi := T.length) (by simp)
      rw [List.take_append_of_le_length (Nat.le_refl _), List.take_length] at hy2
      have HB4 := Lib.hid (below_next HB3.out hb4)
      have HX4 := Lib.hid ((hb4.block w.heap.size HZ3.out).trans HX3.out)
      have HZ4 := Lib.hid (Nat.lt_of_lt_of_le HZ3.out hb4.size)
      have CM := Lib.hid (CA.out w4 HB4.out c A T (by omega) hy2)
      rw [hm] at CM
      have hsl := fun W => slice_h A (m + 2) c m (by omega) W
      have hse := fun x lo hi mx W => sliceAt_eq x lo hi mx W
      have d1 : decide ((m : Int) + 2 < 2) = false := decide_eq_false (by omega)
      have d2 : decide (m + 2 < 2) = false := decide_eq_false (by omega)
      have e1 : (m : Int) + 2 - 2 = (m : Int) := by omega
      have w1 : IntKind.i64.wrap (m : Int) = (m : Int) := IntWalk.i64_in _ (by omega)
      clear x0 x1 x2 x3 x4 x5 x6 x7 x8 HX3 HB3 HZ3 PR hb4 hy hy2 hn hle hv hT hTC HLN HTC CA hm
      go_wp2_with fail
      refine CM.out.mono ?_
      rintro e w5 ⟨cm, bb, v, hcm, rfl, ⟨hv, _⟩, hb5⟩
      obtain ⟨rfl, rfl⟩ := hcm.det HTC2.out.1
      obtain ⟨sv, dv, rfl, ⟨A3, j3, rfl, l3, s3⟩, A4, j4, rfl, l4, s4⟩ := hv
      have HB5 := Lib.hid (below_next HB4.out hb5)
      have HX5 := Lib.hid ((hb5.block w.heap.size HZ4.out).trans HX4.out)
      have HZ5 := Lib.hid (Nat.lt_of_lt_of_le HZ4.out hb5.size)
      have S3 := Lib.hid s3
      have S4 := Lib.hid s4
      have L4 := Lib.hid l4
      have HCO := Lib.hid HTC2.out.2
      generalize cmOf a = d at *
      unfold cmdA
      have hal := below_al w5 (.cells #[.string ⟨d.tag.toArray⟩, .int .i64 (d.kind : Int), .string ⟨d.mbox.toArray⟩, .slice A3 d.set.length j3, .int .i64 (d.items : Int), .int .i64 (d.mode : Int), .bool d.silent, .int .u8 (d.flags : Int), .slice A4 d.data.length j4] 26)
      have hnew := heap_alloc_new w5 (.cells #[.string ⟨d.tag.toArray⟩, .int .i64 (d.kind : Int), .string ⟨d.mbox.toArray⟩, .slice A3 d.set.length j3, .int .i64 (d.items : Int), .int .i64 (d.mode : Int), .bool d.silent, .int .u8 (d.flags : Int), .slice A4 d.data.length j4] 26)
      have hz6 := World.size_alloc w5 (.cells #[.string ⟨d.tag.toArray⟩, .int .i64 (d.kind : Int), .string ⟨d.mbox.toArray⟩, .slice A3 d.set.length j3, .int .i64 (d.items : Int), .int .i64 (d.mode : Int), .bool d.silent, .int .u8 (d.flags : Int), .slice A4 d.data.length j4] 26)
      have HAL := Lib.hid hal
      have HNW := Lib.hid hnew
      have HZ6 := Lib.hid hz6
      clear hcm hb5 s3 s4 l3 l4 HX4 HB4 HZ4 CM HTC2 hal hnew hz6
      go_upto_region 7 with (fail)
      generalize w5.alloc (.cells #[.string ⟨d.tag.toArray⟩, .int .i64 (d.kind : Int), .string ⟨d.mbox.toArray⟩, .slice A3 d.set.length j3, .int .i64 (d.items : Int), .int .i64 (d.mode : Int), .bool d.silent, .int .u8 (d.flags : Int), .slice A4 d.data.length j4] 26) = w6 at *
      have HB6 := Lib.hid (below_next HB5.out HAL.out)
      have HX6 := Lib.hid ((HAL.out.block w.heap.size HZ5.out).trans HX5.out)
      go_wp2_with fail
      refine (AL.out _ HB6.out).mono ?_
      rintro e w7 ⟨rfl, hb7⟩
      have HB7 := Lib.hid (below_next HB6.out hb7)
      have HX7 := Lib.hid ((hb7.block w.heap.size (by have := HZ6.out; have := HZ5.out; omega)).trans HX6.out)
      have HN7 := Lib.hid ((hb7.block w5.heap.size (by have := HZ6.out; omega)).trans HNW.out)
      have S7 := Lib.hid (SA.out w7 HB7.out d HCO.out A3 j3 A4 j4 L4.out ((S3.out.below HAL.out).below hb7) ((S4.out.below HAL.out).below hb7))
      have hs : sameC (ciOf d) a = true := by rw [HCO.out]; exact sameC_refl7 a
      rw [hs] at S7
      clear hs
      clear hb7 HX6 HNW HZ6 HAL HX5 HB6 HB5 HZ5 S3 S4 AL SA
      obtain ⟨x0, x1, x2, x3, x4, x5, x6, x7, x8⟩ := cells9 HX7.out
      obtain ⟨y0, y1, y2, y3, y4, y5, y6, y7, y8⟩ := cells9 HN7.out
      unfold ciOf at S7
      go_wp2_with fail
      refine S7.out.mono ?_
      rintro e w8 ⟨rfl, hb8⟩
      have HB8 := Lib.hid (below_next HB7.out hb8)
      clear x0 x1 x2 x3 x4 x5 x6 x7 x8 y0 y1 y2 y3 y4 y5 y6 y7 y8 hb8
      go_wp2_with fail
      go_ret
      exact ⟨rfl, HB8.out⟩
    · have HB4 := Lib.hid (below_next HB3.out hb4)
      clear x0 x1 x2 x3 x4 x5 x6 x7 x8 HX3 HB3 HZ3 PR hb4
      go_wp2_with fail
      refine (AL.out _ HB4.out).mono ?_
      rintro e w5 ⟨rfl, hb5⟩
      go_wp2_with fail
      go_ret
      exact ⟨rfl, below_next HB4.out hb5⟩
end Go.Proofs.YtpgfnlhfciacoaaGreatDoor
