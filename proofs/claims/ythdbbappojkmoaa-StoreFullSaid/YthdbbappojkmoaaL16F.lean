/- The law StoreFull. -/
import Derived.Test.YthdbbappojkmoaaHx
namespace Go.Proofs.Ythdbbappojkmoaa
open Go.RowKit

/-- Behind i appends. -/
structure F16 (n k i : Nat) (st : StP) : Prop where
  cap : st.cap = n
  len : st.ms.length = min i (min n k)
  next : st.next = 4294967295 - k + min i (min n k)
  sub : ∀ j, st.sub j = none
theorem F16.start {n k : Nat} (hk : k < 20) : F16 n k 0 (newP 2 n (4294967295 - k)) :=
  ⟨rfl, by show 0 = _; omega, by show max (4294967295 - k) 1 = _; omega, fun _ => rfl⟩
theorem F16.ok {n k i : Nat} {st : StP} (h : F16 n k i st) (hk : k < 20) (hi : i < min n k) : (appP st 0 []).2 = (4294967295 - k + i, 0) ∧ F16 n k (i + 1) (appP st 0 []).1 := by
  have h1 := h.cap
  have h2 := h.len
  have h3 := h.next
  rw [app_ok (by omega) (by simp) (by omega) (by omega)]
  refine ⟨by simp only; rw [h3, show min i (min n k) = i by omega], h1, ?_, ?_, fun j => ?_⟩
  · simp only [List.length_append, List.length_cons, List.length_nil]
    omega
  · simp only
    omega
  · simp only [tellP, h.sub j, Option.map_none]
theorem F16.full {n k i : Nat} {st : StP} (h : F16 n k i st) (hi : n ≤ i) (hnk : n ≤ k) : appP st 0 [] = (st, 0, 5) ∧ F16 n k (i + 1) st := by
  have h1 := h.cap
  have h2 := h.len
  have h3 := h.next
  exact ⟨app_full (by omega) (by simp) (by omega), h1, by omega, by omega, h.sub⟩
theorem F16.uid {n k i : Nat} {st : StP} (h : F16 n k i st) (hk : k < 20) (hi : k ≤ i) (hnk : k < n) : appP st 0 [] = (st, 0, 6) ∧ F16 n k (i + 1) st := by
  have h1 := h.cap
  have h2 := h.len
  have h3 := h.next
  exact ⟨app_uid (by omega) (by simp) (by omega) (by omega), h1, by omega, by omega, h.sub⟩
theorem F16.uids {n k i : Nat} {st : StP} (h : F16 n k i st) : (uidsP st).length = min i (min n k) := by
  unfold uidsP
  rw [List.length_map, h.len]
set_option maxRecDepth 100000 in
set_option maxHeartbeats 4000000 in
theorem storeFull_law (c : Nat) (_hc : c ≤ 255) (l : Nat) (_hl : l ≤ 255) (w : World) : Calls Try.prog 3 #[.int .u8 c, .int .u8 l] w fun e w' => e = .returned (.bool true) ∧ Below w.heap.size w w' := by
  have N := Lib.hid (sx_new 2 (c % 20) (4294967295 - l % 20) (by decide) (by omega) (by omega) w)
  have AL := Lib.hid (fun W => alive16_any W)
  have hn := Nat.mod_lt c (show 20 > 0 by decide)
  have hk := Nat.mod_lt l (show 20 > 0 by decide)
  have e1 : IntKind.i64.wrap (c : Int) = (c : Int) := IntWalk.i64_in _ (by omega)
  have e2 : (c : Int).tmod 20 = ((c % 20 : Nat) : Int) := by rw [Int.tmod_eq_emod_of_nonneg (by omega)]; omega
  have e2' : (c : Int) % 20 = ((c % 20 : Nat) : Int) := by omega
  have e3 : IntKind.u32.wrap (l : Int) = (l : Int) := by rw [IntKind.wrap_u32]; omega
  have e4 : (l : Int).tmod 20 = ((l % 20 : Nat) : Int) := by rw [Int.tmod_eq_emod_of_nonneg (by omega)]; omega
  have e4' : (l : Int) % 20 = ((l % 20 : Nat) : Int) := by omega
  generalize c % 20 = n at *
  generalize l % 20 = k at *
  have e5 : IntKind.u32.wrap (4294967295 - (k : Int)) = ((4294967295 - k : Nat) : Int) := by rw [IntKind.wrap_u32]; omega
  have e6 : IntKind.i64.wrap (n : Int) = (n : Int) := IntWalk.i64_in _ (by omega)
  have e7 : IntKind.u32.wrap (k : Int) = (k : Int) := by rw [IntKind.wrap_u32]; omega
  have e8 : IntKind.i64.wrap (k : Int) = (k : Int) := IntWalk.i64_in _ (by omega)
  go_enter Try.func3, Try.ntmps3
  go_wp2_with fail
  refine N.out.mono ?_
  rintro e w1 ⟨g, rfl, x1⟩
  have X1 := Lib.hid x1
  clear x1 N
  go_wp2_with fail
  go_loopw [24] (fun v wr => ∃ i : Nat, i ≤ 25 ∧ v = .int .i64 i ∧ ∃ st, Hid (F16 n k i st) ∧ Hid (OX w.heap.size (ST g st) [] w wr)) (fun v _ => 25 - (intOf v).toNat)
  case atStart => exact ⟨0, by omega, rfl, _, Lib.hid (F16.start hk), X1⟩
  case round =>
    obtain ⟨i, hi, rfl, st, hf, hx⟩ := hrel
    have hi0 : (0 : Int) ≤ (i : Int) := by omega
    by_cases hlt : i < 25
    · have hi1 : (i : Int) < 25 := by omega
      have C1 := hx.out.app 0 (by decide) none 0 [] (ByAt.nil _ _ _ _) (.inl rfl) (small_none hf.out.sub 50000)
      by_cases hmin : i < min n k
      · have k1 : (i : Int) < (k : Int) := by omega
        have k2 : (i : Int) < (n : Int) := by omega
        have k3 : (n : Int) ≤ 19 := by omega
        obtain ⟨r1, f1⟩ := hf.out.ok hk hmin
        have F1 := Lib.hid f1
        rw [r1] at C1
        have hu : 0 < ((4294967295 - k + i : Nat) : Int) := by omega
        generalize (appP st 0 []).1 = st1 at *
        generalize ((4294967295 - k + i : Nat) : Int) = u at *
        have C1 := Lib.hid C1
        have hul := F1.out.uids
        have hle : ((min (i + 1) (min n k) : Nat) : Int) ≤ (n : Int) := by omega
        generalize min (i + 1) (min n k) = m at *
        clear f1 r1 hf hx
        go_wp2_with fail
        refine C1.out.mono ?_
        rintro e w2 ⟨rfl, x2⟩
        have C2 := x2.uids
        rw [hul] at C2
        have C2 := Lib.hid C2
        clear x2 C1 hul
        go_wp2_with fail
        refine C2.out.mono ?_
        rintro e w3 ⟨A3, c3, rfl, x3⟩
        have X3 := Lib.hid x3.drop
        clear x3 C2
        go_wp2_with fail
        go_roundw
        case rel => exact ⟨i + 1, by omega, by go_num, st1, F1, X3⟩
        case measure => simp [intOf]; omega
      · by_cases hnk : n ≤ k
        · have hni : n ≤ i := by omega
          have k1 : (n : Int) ≤ (i : Int) := by omega
          have k2 : (n : Int) ≤ (k : Int) := by omega
          by_cases hki : k ≤ i
          · have k3 : (k : Int) ≤ (i : Int) := by omega
            obtain ⟨r1, f1⟩ := hf.out.full hni hnk
            have F1 := Lib.hid f1
            rw [r1] at C1
            have C1 := Lib.hid C1
            have hul := F1.out.uids
            have hle : ((min (i + 1) (min n k) : Nat) : Int) ≤ (n : Int) := by omega
            generalize min (i + 1) (min n k) = m at *
            clear f1 r1 hf hx
            go_wp2_with fail
            refine C1.out.mono ?_
            rintro e w2 ⟨rfl, x2⟩
            have C2 := x2.uids
            rw [hul] at C2
            have C2 := Lib.hid C2
            clear x2 C1 hul
            go_wp2_with fail
            refine C2.out.mono ?_
            rintro e w3 ⟨A3, c3, rfl, x3⟩
            have X3 := Lib.hid x3.drop
            clear x3 C2
            go_wp2_with fail
            go_roundw
            case rel => exact ⟨i + 1, by omega, by go_num, st, F1, X3⟩
            case measure => simp [intOf]; omega
          · have k3 : (i : Int) < (k : Int) := by omega
            obtain ⟨r1, f1⟩ := hf.out.full hni hnk
            have F1 := Lib.hid f1
            rw [r1] at C1
            have C1 := Lib.hid C1
            have hul := F1.out.uids
            have hle : ((min (i + 1) (min n k) : Nat) : Int) ≤ (n : Int) := by omega
            generalize min (i + 1) (min n k) = m at *
            clear f1 r1 hf hx
            go_wp2_with fail
            refine C1.out.mono ?_
            rintro e w2 ⟨rfl, x2⟩
            have C2 := x2.uids
            rw [hul] at C2
            have C2 := Lib.hid C2
            clear x2 C1 hul
            go_wp2_with fail
            refine C2.out.mono ?_
            rintro e w3 ⟨A3, c3, rfl, x3⟩
            have X3 := Lib.hid x3.drop
            clear x3 C2
            go_wp2_with fail
            go_roundw
            case rel => exact ⟨i + 1, by omega, by go_num, st, F1, X3⟩
            case measure => simp [intOf]; omega
        · have hki : k ≤ i := by omega
          have k1 : (k : Int) ≤ (i : Int) := by omega
          have k2 : (k : Int) < (n : Int) := by omega
          by_cases hni : n ≤ i
          · have k3 : (n : Int) ≤ (i : Int) := by omega
            obtain ⟨r1, f1⟩ := hf.out.uid hk hki (by omega)
            have F1 := Lib.hid f1
            rw [r1] at C1
            have C1 := Lib.hid C1
            have hul := F1.out.uids
            have hle : ((min (i + 1) (min n k) : Nat) : Int) ≤ (n : Int) := by omega
            generalize min (i + 1) (min n k) = m at *
            clear f1 r1 hf hx
            go_wp2_with fail
            refine C1.out.mono ?_
            rintro e w2 ⟨rfl, x2⟩
            have C2 := x2.uids
            rw [hul] at C2
            have C2 := Lib.hid C2
            clear x2 C1 hul
            go_wp2_with fail
            refine C2.out.mono ?_
            rintro e w3 ⟨A3, c3, rfl, x3⟩
            have X3 := Lib.hid x3.drop
            clear x3 C2
            go_wp2_with fail
            go_roundw
            case rel => exact ⟨i + 1, by omega, by go_num, st, F1, X3⟩
            case measure => simp [intOf]; omega
          · have k3 : (i : Int) < (n : Int) := by omega
            obtain ⟨r1, f1⟩ := hf.out.uid hk hki (by omega)
            have F1 := Lib.hid f1
            rw [r1] at C1
            have C1 := Lib.hid C1
            have hul := F1.out.uids
            have hle : ((min (i + 1) (min n k) : Nat) : Int) ≤ (n : Int) := by omega
            generalize min (i + 1) (min n k) = m at *
            clear f1 r1 hf hx
            go_wp2_with fail
            refine C1.out.mono ?_
            rintro e w2 ⟨rfl, x2⟩
            have C2 := x2.uids
            rw [hul] at C2
            have C2 := Lib.hid C2
            clear x2 C1 hul
            go_wp2_with fail
            refine C2.out.mono ?_
            rintro e w3 ⟨A3, c3, rfl, x3⟩
            have X3 := Lib.hid x3.drop
            clear x3 C2
            go_wp2_with fail
            go_roundw
            case rel => exact ⟨i + 1, by omega, by go_num, st, F1, X3⟩
            case measure => simp [intOf]; omega
    · obtain rfl : i = 25 := by omega
      have hul := hf.out.uids
      have hnx := hf.out.next
      rw [show min 25 (min n k) = min n k by omega] at hul hnx
      have hmin : min (n : Int) (k : Int) = ((min n k : Nat) : Int) := by omega
      have m1 : IntKind.u32.wrap ((min n k : Nat) : Int) = ((min n k : Nat) : Int) := IntWalk.u32_in _ (by omega)
      have m2 : IntKind.u32.wrap (((4294967295 - k : Nat) : Int) + ((min n k : Nat) : Int)) = ((4294967295 - k + min n k : Nat) : Int) := by rw [IntKind.wrap_u32]; omega
      go_wp2_with fail
      refine (AL.out _).mono ?_
      rintro e w2 ⟨rfl, hb2⟩
      have x2 := hx.out.bel hb2
      have C2 := x2.uids
      rw [hul] at C2
      have C2 := Lib.hid C2
      clear x2 hb2 AL hx
      go_wp2_with fail
      refine C2.out.mono ?_
      rintro e w3 ⟨A3, c3, rfl, x3⟩
      have C3 := x3.drop.nextS
      rw [hnx] at C3
      have C3 := Lib.hid C3
      clear x3 C2
      go_wp2_with fail
      refine C3.out.mono ?_
      rintro e w4 ⟨rfl, x4⟩
      have HB := Lib.hid x4.be
      clear x4 C3
      go_wp2_with fail
      go_ret
      exact ⟨rfl, HB.out⟩
end Go.Proofs.Ythdbbappojkmoaa
