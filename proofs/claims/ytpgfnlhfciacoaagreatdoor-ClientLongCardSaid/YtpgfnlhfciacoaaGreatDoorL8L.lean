/- The law ClientLong. -/
import Derived.Test.YtpgfnlhfciacoaaGreatDoorL8M
import Derived.Test.YtpgfnlhfciacoaaGreatDoorKf
import Derived.Test.YtpgfnlhfciacoaaGreatDoorShelfR
namespace Go.Proofs.YtpgfnlhfciacoaaGreatDoor
open Go.RowKit

theorem repeat8_any (x : UInt8) (n : Nat) (hn : n ≤ 100000) (w : World) :
    Calls Tryz.prog 25 #[.string ⟨#[x]⟩, .int .i64 (n : Int)] w fun e w' => e = .returned (.string ⟨(List.replicate n x).toArray⟩) ∧ Below w.heap.size w w' := by
  have h := Any.strings_Repeat Tryz.lays105 Tryz.Builder_Extra_105 ⟨#[x]⟩ n w (by omega) (by show 1 * n ≤ _; omega)
  have e : Lib.repeatL [x] n = List.replicate n x := by
    have := Lib.repeatL_replicate x 1 n
    simpa using this
  rw [show (ByteArray.mk #[x]).data.toList = [x] from rfl, e] at h
  exact h
/-- Where the second command lies. -/
def LgS (w : World) (b : Nat) (cs : Array Value) (W : World) : Prop := W.heap[b]? = some (.cells cs 26 (0, 0)) ∧ Below w.heap.size w W
theorem LgS.below {w W W' : World} {b : Nat} {cs : Array Value} (h : LgS w b cs W) (hb : Below W.heap.size W W') : LgS w b cs W' :=
  ⟨(hb.block _ (Array.getElem?_eq_some_iff.1 h.1).1).trans h.1, below_next h.2 hb⟩

set_option maxRecDepth 100000 in
set_option maxHeartbeats 4000000 in
theorem clientLong_any (more : Nat) (hm : more ≤ 255) (w : World) (he : EnvB w.heap.size w) :
    Calls Tryz.prog 8 #[.int .u8 (more : Int)] w fun e w' => e = .returned (.bool true) ∧ Below w.heap.size w w' := by
  obtain ⟨N, hN⟩ : ∃ N, 8191 + more % 3 = N := ⟨_, rfl⟩
  obtain ⟨M, hM⟩ : ∃ M, M + 9 = N := ⟨N - 9, by omega⟩
  have hN1 : 8191 ≤ N := by omega
  have hN2 : N ≤ 8193 := by omega
  obtain ⟨x1, x2, x3, x4⟩ := long_x hM hN1 hN2
  obtain ⟨z1, z2, z3, z4⟩ := long_0 hN1 hN2
  have AL := Lib.hid (fun W (hW : Below w.heap.size w W) => alive8_any W ((he.below hW).mono hW.size))
  have PX := Lib.hid (fun W (hW : Below w.heap.size w W) => cprint_any (selC (List.replicate M 120)) none none 0 0 (sel_f _) (fun r hr => by cases hr) (sel_t _) (by show (List.replicate M 120).length ≤ _; rw [List.length_replicate]; omega) (sel_s _) (sel_d _) W ((he.below hW).mono hW.size) (.inl rfl) ⟨Nat.le_refl _, .inl rfl⟩)
  have PZ := Lib.hid (fun W (hW : Below w.heap.size w W) => cprint_any (selC (List.replicate N 0)) none none 0 0 (sel_f _) (fun r hr => by cases hr) (sel_t _) (by show (List.replicate N 0).length ≤ _; rw [List.length_replicate]; omega) (sel_s _) (sel_d _) W ((he.below hW).mono hW.size) (.inl rfl) ⟨Nat.le_refl _, .inl rfl⟩)
  have LZ : Hid (∀ W, Below w.heap.size w W → Calls Tryz.prog 14 #[ciV (selC (List.replicate N 0)) none none 0 0] W fun e w' => e = .returned (.int .i64 1) ∧ Below W.heap.size W w') := Lib.hid (fun W hW => (cliterals_any (selC (List.replicate N 0)) none none 0 0 (sel_f _) (fun r hr => by cases hr) (sel_t _) (by show (List.replicate N 0).length ≤ _; rw [List.length_replicate]; omega) (sel_s _) (sel_d _) W ((he.below hW).mono hW.size) (.inl rfl) ⟨Nat.le_refl _, .inl rfl⟩).mono fun e w' ⟨j, h1, h2, h3⟩ => ⟨by
    have hj : j = 1 := h2.det (.inl ⟨z1, z2⟩)
    rw [h1, hj]; rfl, h3⟩)
  have R1 := Lib.hid (fun W => repeat8_any 120 M (by omega) W)
  have R2 := Lib.hid (fun W => repeat8_any 0 N (by omega) W)
  have X2 := Lib.hid x2
  have XA : Hid (N ≤ 8192 → validC (selC (List.replicate M 120)) = true ∧ ∃ k, Sent (textT (selC (List.replicate M 120))) k) := Lib.hid (fun h => ⟨x1, 0, x3 h⟩)
  have XB : Hid (8192 < N → ¬ (validC (selC (List.replicate M 120)) = true ∧ ∃ k, Sent (textT (selC (List.replicate M 120))) k)) := Lib.hid (fun h h2 => x4 h h2.2)
  have ZA := Lib.hid (show validC (selC (List.replicate N 0)) = true ∧ ∃ k, Sent (textT (selC (List.replicate N 0))) k from ⟨z1, 1, z2⟩)
  have Z3 := Lib.hid z3
  have Z4 := Lib.hid z4
  have q1 : (more : Int).tmod 3 = ((more % 3 : Nat) : Int) := by rw [Int.tmod_eq_emod_of_nonneg (by omega)]; omega
  have q2 : (more : Int) % 3 = ((more % 3 : Nat) : Int) := by omega
  obtain ⟨r, hr⟩ : ∃ r, more % 3 = r := ⟨_, rfl⟩
  rw [hr] at hN q1 q2
  have w0 : IntKind.i64.wrap (more : Int) = (more : Int) := IntWalk.i64_in _ (by omega)
  have w1 : IntKind.i64.wrap (r : Int) = (r : Int) := IntWalk.i64_in _ (by omega)
  have w2 : IntKind.i64.wrap (8191 + (r : Int)) = (N : Int) := by rw [IntWalk.i64_in _ (by omega)]; omega
  have w3 : IntKind.i64.wrap ((N : Int) - 9) = (M : Int) := by rw [IntWalk.i64_in _ (by omega)]; omega
  clear x1 x2 x3 x4 z1 z2 z3 z4 hr hN he
  unfold ciV selC at PX PZ LZ
  generalize hsx : List.replicate M (120 : UInt8) = sx at *
  generalize hsz : List.replicate N (0 : UInt8) = sz at *
  clear hsx hsz
  go_enter Tryz.func8, Tryz.ntmps8
  go_wp2_with fail
  refine (R1.out _).mono ?_
  rintro e v1 ⟨rfl, hb1⟩
  have HB1 := Lib.hid hb1
  have HAL1 := Lib.hid (below_al v1 (.cells #[.string ⟨#[97]⟩, .int .i64 5, .string ⟨sx.toArray⟩, .slice none 0 0, .int .i64 0, .int .i64 0, .bool false, .int .u8 0, .slice none 0 0] 26))
  have HRW1 := Lib.hid (heap_alloc_new v1 (.cells #[.string ⟨#[97]⟩, .int .i64 5, .string ⟨sx.toArray⟩, .slice none 0 0, .int .i64 0, .int .i64 0, .bool false, .int .u8 0, .slice none 0 0] 26))
  clear hb1
  go_upto_region 3 with (fail)
  generalize v1.alloc (.cells #[.string ⟨#[97]⟩, .int .i64 5, .string ⟨sx.toArray⟩, .slice none 0 0, .int .i64 0, .int .i64 0, .bool false, .int .u8 0, .slice none 0 0] 26) = v2 at *
  have HB2 := Lib.hid (below_next HB1.out HAL1.out)
  obtain ⟨y0, y1, y2, y3, y4, y5, y6, y7, y8⟩ := cells9 HRW1.out
  have PX2 := Lib.hid (PX.out v2 HB2.out)
  clear HAL1 PX HB1
  go_wp2_with fail
  refine PX2.out.mono ?_
  intro e v3 h3
  have hb3 : Below v2.heap.size v2 v3 := by rcases h3 with ⟨_, _, _, _, _, h⟩ | ⟨_, _, h⟩ <;> exact h
  have HB3 := Lib.hid (below_next HB2.out hb3)
  have hres : (N ≤ 8192 ∧ ∃ A c, e = .returned (.tuple #[.slice A (N + 2) c, .bool true])) ∨ (8192 < N ∧ e = .returned (.tuple #[.slice none 0 0, .bool false])) := by
    rcases h3 with ⟨hv, A, c, he, _, _⟩ | ⟨hno, he, _⟩
    · refine .inl ⟨?_, A, c, ?_⟩
      · by_cases h : N ≤ 8192
        · exact h
        · exact absurd hv (XB.out (by omega))
      · have hl : (textT (selC sx) ++ [13, 10]).length = N + 2 := by rw [List.length_append, X2.out]; rfl
        rw [he, ← hl]
        rfl
    · refine .inr ⟨?_, he⟩
      by_cases h : N ≤ 8192
      · exact absurd (XA.out h) hno
      · omega
  clear h3 hb3 PX2 XA XB X2 HRW1 y0 y1 y2 y3 y4 y5 y6 y7 y8 HB2
  rcases hres with ⟨hle, A, c, rfl⟩ | ⟨hle, rfl⟩
  all_goals
    have HLE := Lib.hid hle
    clear hle
    go_wp2_with fail
    refine (R2.out _).mono ?_
    rintro e v4 ⟨rfl, hb4⟩
    have HB4 := Lib.hid (below_next HB3.out hb4)
    have HAL4 := Lib.hid (below_al v4 (.cells #[.string ⟨#[97]⟩, .int .i64 5, .string ⟨sz.toArray⟩, .slice none 0 0, .int .i64 0, .int .i64 0, .bool false, .int .u8 0, .slice none 0 0] 26))
    have HRW4 := Lib.hid (heap_alloc_new v4 (.cells #[.string ⟨#[97]⟩, .int .i64 5, .string ⟨sz.toArray⟩, .slice none 0 0, .int .i64 0, .int .i64 0, .bool false, .int .u8 0, .slice none 0 0] 26))
    clear hb4
    go_upto_region 5 with (fail)
    generalize v4.alloc (.cells #[.string ⟨#[97]⟩, .int .i64 5, .string ⟨sz.toArray⟩, .slice none 0 0, .int .i64 0, .int .i64 0, .bool false, .int .u8 0, .slice none 0 0] 26) = v5 at *
    have HB5 := Lib.hid (below_next HB4.out HAL4.out)
    obtain ⟨y0, y1, y2, y3, y4, y5, y6, y7, y8⟩ := cells9 HRW4.out
    have PZ5 := Lib.hid (PZ.out v5 HB5.out)
    clear HAL4 PZ HB4 HB3
    go_wp2_with fail
    refine PZ5.out.mono ?_
    rintro e v6 (⟨_, A2, c2, rfl, _, hb6⟩ | ⟨hno, _, _⟩)
    rotate_left
    · exact absurd ZA.out hno
    have HS6 : Hid (LgS w v4.heap.size #[.string ⟨#[97]⟩, .int .i64 5, .string ⟨sz.toArray⟩, .slice none 0 0, .int .i64 0, .int .i64 0, .bool false, .int .u8 0, .slice none 0 0] v6) := Lib.hid ⟨(hb6.block _ (Array.getElem?_eq_some_iff.1 HRW4.out).1).trans HRW4.out, below_next HB5.out hb6⟩
    have HS7 := Lib.hid (HS6.out.below (drewN_below7 v6 1))
    obtain ⟨l2, hl2⟩ : ∃ l2, (textT (selC sz) ++ [13, 10]).length = l2 := ⟨_, rfl⟩
    have hgt : decide ((N : Int) < (l2 : Int)) = true := decide_eq_true (by have := Z3.out; rw [hl2] at this; omega)
    have hl2' : (textT ⟨[97], 5, sz, [], 0, 0, false, 0, []⟩ ++ [13, 10]).length = l2 := hl2
    rw [hl2']
    have HGT := Lib.hid hgt
    clear PZ5 HRW4 HB5 hb6 y0 y1 y2 y3 y4 y5 y6 y7 y8 hl2 hl2' hgt Z3 Z4 ZA
    have g1 : IntKind.i64.wrap ((N : Int) + 2) = (N : Int) + 2 := IntWalk.i64_in _ (by omega)
    have g2 := HGT.out
  · have g4 : decide ((N : Int) ≤ 8192) = true := decide_eq_true (by have := HLE.out; omega)
    have g5 : decide (N ≤ 8192) = true := decide_eq_true HLE.out
    have g6 : decide (N < l2) = true := decide_eq_true (by have := of_decide_eq_true HGT.out; omega)
    go_wp2_with fail
    refine (AL.out _ HS6.out.2).mono ?_
    rintro e v7 ⟨rfl, hb7⟩
    have HS8 := Lib.hid (HS6.out.below hb7)
    obtain ⟨y0, y1, y2, y3, y4, y5, y6, y7, y8⟩ := cells9 HS8.out.1
    clear hb7 HS6 HS7
    go_wp2_with fail
    refine (LZ.out _ HS8.out.2).mono ?_
    rintro e v9 ⟨rfl, hb9⟩
    have HB9 := Lib.hid (below_next HS8.out.2 hb9)
    clear hb9 y0 y1 y2 y3 y4 y5 y6 y7 y8
    go_wp2_with fail
    go_ret
    exact ⟨rfl, HB9.out⟩
  · have g4 : decide ((N : Int) ≤ 8192) = false := decide_eq_false (by have := HLE.out; omega)
    have g5 : decide (N ≤ 8192) = false := decide_eq_false (by have := HLE.out; omega)
    have g6 : decide (N < l2) = true := decide_eq_true (by have := of_decide_eq_true HGT.out; omega)
    go_wp2_with fail
    refine (AL.out _ HS6.out.2).mono ?_
    rintro e v7 ⟨rfl, hb7⟩
    have HS8 := Lib.hid (HS6.out.below hb7)
    obtain ⟨y0, y1, y2, y3, y4, y5, y6, y7, y8⟩ := cells9 HS8.out.1
    clear hb7 HS6 HS7
    go_wp2_with fail
    refine (LZ.out _ HS8.out.2).mono ?_
    rintro e v9 ⟨rfl, hb9⟩
    have HB9 := Lib.hid (below_next HS8.out.2 hb9)
    clear hb9 y0 y1 y2 y3 y4 y5 y6 y7 y8
    go_wp2_with fail
    go_ret
    exact ⟨rfl, HB9.out⟩
end Go.Proofs.YtpgfnlhfciacoaaGreatDoor
