/- client: send, Print, Literals. -/
import Derived.Test.YtpgfnlhfciacoaaGreatDoorCliT
import Derived.Test.YtpgfnlhfciacoaaGreatDoorCliS
import Derived.Test.YtpgfnlhfciacoaaGreatDoorCliM
import Derived.Test.YtpgfnlhfciacoaaGreatDoorGi
import Derived.IntWalk
namespace Go.Proofs.YtpgfnlhfciacoaaGreatDoor
open Go.RowKit

theorem EnvB.mono {B B' : Nat} {w : World} (h : EnvB B w) (hB : B ≤ B') : EnvB B' w := by
  obtain ⟨a, b, l1, l2, l3, l4⟩ := h
  exact ⟨a, b, by omega, by omega, by omega, by omega⟩
/-- What send answers. -/
def CsPost (a : CI) (w : World) (e : Ending) (w' : World) : Prop :=
  (∃ j, (validC a = true ∧ Sent (textT a) j) ∧ ∃ A c Af cf, e = .returned (.tuple #[.slice A (textT a ++ [13, 10]).length c, .slice Af (j + 1) cf, .bool true]) ∧ ByAt w'.heap.size w' A c (textT a ++ [13, 10]) ∧ Below w.heap.size w w') ∨
  (¬ (validC a = true ∧ ∃ k, Sent (textT a) k) ∧ e = .returned (.tuple #[.slice none 0 0, .slice none 0 0, .bool false]) ∧ Below w.heap.size w w')

set_option maxRecDepth 100000 in
set_option maxHeartbeats 4000000 in
theorem csend_any (a : CI) (A1 A2 : Option Addr) (k1 k2 : Nat) (hf : 0 ≤ a.flags ∧ a.flags ≤ 255) (hb : ∀ r ∈ a.set, r.1 ≤ 4294967295 ∧ r.2 ≤ 4294967295)
    (l0 : a.tag.length ≤ 100000) (l3 : a.mbox.length ≤ 100000) (l1 : a.set.length ≤ 10000) (l2 : a.data.length ≤ 100000) (w : World) (he : EnvB w.heap.size w) (s1 : SlAt encR 2 w A1 a.set) (s2 : ByAt w.heap.size w A2 k2 a.data) :
    Calls Tryz.prog 26 #[ciV a A1 A2 k1 k2] w (CsPost a w) := by
  have HX := Lib.hid (heap_alloc_new w (.cells #[.string ⟨a.tag.toArray⟩, .int .i64 a.kind, .string ⟨a.mbox.toArray⟩, .slice A1 a.set.length k1, .int .i64 a.items, .int .i64 a.mode, .bool a.silent, .int .u8 a.flags, .slice A2 a.data.length k2] 26))
  have HB := Lib.hid (below_al w (.cells #[.string ⟨a.tag.toArray⟩, .int .i64 a.kind, .string ⟨a.mbox.toArray⟩, .slice A1 a.set.length k1, .int .i64 a.items, .int .i64 a.mode, .bool a.silent, .int .u8 a.flags, .slice A2 a.data.length k2] 26))
  have HZ : Hid (_ = w.heap.size + 1) := Lib.hid (World.size_alloc w (.cells #[.string ⟨a.tag.toArray⟩, .int .i64 a.kind, .string ⟨a.mbox.toArray⟩, .slice A1 a.set.length k1, .int .i64 a.items, .int .i64 a.mode, .bool a.silent, .int .u8 a.flags, .slice A2 a.data.length k2] 26))
  have VA := Lib.hid (fun W (hW : Below w.heap.size w W) => valid_any a A1 A2 k1 k2 hf (by omega) (by omega) (by omega) (by omega) W (s1.below hW) ((s2.below hW).mono hW.size))
  have TX : Hid (validC a = true → ∀ W, Below w.heap.size w W → Calls Tryz.prog 46 #[ciV a A1 A2 k1 k2] W (CtPost (textT a) W)) := Lib.hid (fun hv W hW => by
    obtain ⟨v1, v2, v3, v4, v5, v6⟩ := validC_int hv
    have v7 := (validC_bd hv).2.2
    obtain ⟨tag, kind, mbox, set, items, mode, silent, flags, data⟩ := a
    simp only at v1 v2 v3 v4 v5 v6 v7 hf hb l0 l1 l2 l3 s1 s2
    obtain ⟨kind, rfl⟩ := Int.eq_ofNat_of_zero_le (show 0 ≤ kind by omega)
    obtain ⟨items, rfl⟩ := Int.eq_ofNat_of_zero_le v3
    obtain ⟨mode, rfl⟩ := Int.eq_ofNat_of_zero_le v5
    obtain ⟨flags, rfl⟩ := Int.eq_ofNat_of_zero_le hf.1
    exact ctext_any tag mbox data set kind items mode flags silent A1 A2 k1 k2 ⟨by omega, by omega⟩ (by omega) (by omega) (by omega) hb l0 l3 l1 l2 W ((he.below hW).mono hW.size) (s1.below hW) ((s2.below hW).mono hW.size))
  have HL : Hid (validC a = true → (textT a).length ≤ 900000) := Lib.hid (fun hv => by
    obtain ⟨v1, v2, v3, v4, v5, v6⟩ := validC_int hv
    exact textT_len hf.1 (validC_bd hv).2.2 v3 v4 hb l0 l3 l1 l2)
  have HE := Lib.hid he
  clear s1 s2 hf hb l0 l1 l2 l3 he
  generalize hva : validC a = va at *
  have HVA := Lib.hid hva
  clear hva
  unfold ciV at *
  go_enter Tryz.func26, Tryz.ntmps26
  go_upto_region 1 with (fail)
  generalize w.alloc (.cells #[.string ⟨a.tag.toArray⟩, .int .i64 a.kind, .string ⟨a.mbox.toArray⟩, .slice A1 a.set.length k1, .int .i64 a.items, .int .i64 a.mode, .bool a.silent, .int .u8 a.flags, .slice A2 a.data.length k2] 26) = W2 at *
  obtain ⟨x0, x1, x2, x3, x4, x5, x6, x7, x8⟩ := cells9 HX.out
  go_wp2_with fail
  refine (VA.out _ HB.out).mono ?_
  rintro e w3 ⟨rfl, hb3⟩
  have HB3 := Lib.hid (below_next HB.out hb3)
  have HX3 := Lib.hid ((hb3.block w.heap.size (by have := HZ.out; omega)).trans HX.out)
  clear x0 x1 x2 x3 x4 x5 x6 x7 x8 HX hb3 VA HB HZ
  cases va with
  | false =>
    go_wp2_with fail
    refine bodyPost_ret (v := .tuple #[.slice none 0 0, .slice none 0 0, .bool false]) (by simp [results, Tryz.results26, go_sem]) rfl ?_
    exact .inr ⟨(fun h => by have := h.1; rw [HVA.out] at this; exact absurd this (by decide)), rfl, HB3.out⟩
  | true =>
    have TX2 := Lib.hid (TX.out rfl)
    have HL2 := Lib.hid (HL.out rfl)
    clear TX HL
    obtain ⟨x0, x1, x2, x3, x4, x5, x6, x7, x8⟩ := cells9 HX3.out
    obtain ⟨T, hT⟩ : ∃ T, textT a = T := ⟨_, rfl⟩
    have HT := Lib.hid hT
    rw [hT] at TX2 HL2
    clear hT
    go_wp2_with fail
    refine (TX2.out _ HB3.out).mono ?_
    rintro e w4 ⟨A, c, rfl, hy, hb4⟩
    have HB4 := Lib.hid (below_next HB3.out hb4)
    have HY := Lib.hid hy
    obtain ⟨m0, hm0⟩ : ∃ m0, T.length = m0 := ⟨_, rfl⟩
    have hn0 : (T ++ [13, 10]).length = m0 + 2 := by rw [List.length_append, hm0]; rfl
    have HM0 := Lib.hid hm0
    have HN0 := Lib.hid hn0
    have hm9 : m0 ≤ 900000 := by rw [← hm0]; exact HL2.out
    rw [hn0]
    have SP := Lib.hid (split_any w4.heap.size c (m0 + 2) A (T ++ [13, 10]) hn0 (by omega) (short_crlf T) w4 ((HE.out.below HB4.out).mono HB4.out.size) hy)
    clear x0 x1 x2 x3 x4 x5 x6 x7 x8 hy hb4 hm0 hn0 HX3 TX2 HL2
    go_wp2_with fail
    refine SP.out.mono ?_
    rintro e w7 ⟨v, vs, fs, R, k, rfl, hO, hF, hb7, hrun, hdone⟩
    obtain ⟨Af, cf, rfl⟩ := own_any hO
    have HFS := Lib.hid (FsAt.of_own hO hF)
    have HB7 := Lib.hid (below_next HB4.out hb7)
    have HY7 := Lib.hid ((HY.out.below hb7).mono hb7.size)
    have HRUN := Lib.hid hrun
    have HDONE := Lib.hid hdone
    have hpos := some_frame hrun hdone
    have hfl : fs.length ≤ 1000000 := by have := hrun.len.1; rw [HN0.out] at this; omega
    have hRl : R.length ≤ 1000000 := by have := hrun.len.2.1; rw [HN0.out] at this; omega
    have NO : Hid (∀ w', (¬ ∃ j, Sent T j) → Below w.heap.size w w' → CsPost a w (.returned (.tuple #[.slice none 0 0, .slice none 0 0, .bool false])) w') := Lib.hid (fun w' hs hb => .inr ⟨(fun h => hs (by rw [← HT.out]; exact h.2)), rfl, hb⟩)
    obtain ⟨m1, hm1⟩ : ∃ m1, fs.length = m1 + 1 := ⟨fs.length - 1, by omega⟩
    have hj : m1 < fs.length := by omega
    obtain ⟨b, off, Ad, cd, rfl, hbb, c0, c1, cby⟩ := HFS.out.at hj
    have SI : Hid ((R.length = 0 ∧ fs[m1].kind = 1 ∧ fs[m1].data = T) ↔ Sent T m1) := Lib.hid (by
      have h := sent_iff HRUN.out HDONE.out
      have hz : fs.length - 1 = m1 := by omega
      simp only [hz] at h
      rw [← h]
      exact ⟨fun ⟨h1, h2, h3⟩ => ⟨h1, by omega, h2, h3⟩, fun ⟨h1, _, h2, h3⟩ => ⟨h1, h2, h3⟩⟩)
    have SA : Hid (∀ j, Sent T j → j = m1) := Lib.hid (fun j hj => by have := sent_any HRUN.out HDONE.out hj; omega)
    have hw4 : IntKind.i64.wrap (m1 : Int) = (m1 : Int) := IntWalk.i64_in _ (by omega)
    have hi0 : (0 : Int) ≤ (m1 : Int) := by omega
    have hi1 : (m1 : Int) < (m1 : Int) + 1 := by omega
    have CBY := Lib.hid cby
    generalize fs[m1].kind = kd at *
    generalize fs[m1].data = dt at *
    rw [hm1]
    obtain ⟨dl, hdl⟩ : ∃ dl, dt.length = dl := ⟨_, rfl⟩
    have HDL := Lib.hid hdl
    rw [hdl] at c1
    obtain ⟨rl, hrl⟩ : ∃ rl, R.length = rl := ⟨_, rfl⟩
    have HRL := Lib.hid hrl
    rw [hrl] at hRl ⊢
    clear hO hF hb7 hrun hdone SP HY hpos hm1 hj HFS HRUN HDONE cby hdl hrl hfl
    go_upto_region 6 with (fail)
    rename_i K hK
    have hal := below_al w7 (.cells #[.int .i64 (kd : Int), .slice Ad dl cd] 62)
    have hnew := heap_alloc_new w7 (.cells #[.int .i64 (kd : Int), .slice Ad dl cd] 62)
    have hz8 := World.size_alloc w7 (.cells #[.int .i64 (kd : Int), .slice Ad dl cd] 62)
    have HB8 := Lib.hid (below_next HB7.out hal)
    have HY8 := Lib.hid ((HY7.out.below hal).mono hal.size)
    have HD8 := Lib.hid ((CBY.out.below hal).mono hal.size)
    have HN8 := Lib.hid hnew
    have HZ8 := Lib.hid hz8
    clear hal hnew hz8 c0 c1 CBY HY7 HB7 HB4
    generalize w7.alloc (.cells #[.int .i64 (kd : Int), .slice Ad dl cd] 62) = w8 at *
    generalize hbf : w7.heap.size = bf at *
    obtain ⟨q, hq⟩ : ∃ q, (dt == T) = q := ⟨_, rfl⟩
    have HQ := Lib.hid hq
    have ST := fun TT h8 h5 => se_step w8 bf (m0 + 2) c m0 dl cd A Ad q T dt TT h8 h5 HM0.out rfl (by omega) HDL.out hq (cell_of_row _ _ 1 _ _ _ HN8.out) (by have := HZ8.out; omega) HY8.out HD8.out
    have h0 : SS w8 (fun _ => false) { w8 with drawn := w8.drawn + 1 } := ⟨drewN_below7 w8 1, (fun _ => rfl), (fun h => absurd h (by decide)), (fun h => absurd h (by decide))⟩
    refine drawn_region_cl (ops := seOps) (anc := dahead seOps) (V := seV w8.heap.size bf (m0 + 2) c m0 dl cd A Ad q) (S := fun m W => SS w8 m W) (R := fun _ _ => False) (by kernel_rfl) se_fit h0 (ST _ rfl rfl) (fun c a w' _ _ _ h => h.elim) (fun W h => ?_)
    rw [dfin_put se_fit, se_size, se_put]
    have HB9 := Lib.hid (below_next HB8.out h.bel)
    have HY9 := Lib.hid ((HY8.out.below h.bel).mono h.bel.size)
    have HN9 := Lib.hid ((h.bel.block bf (by have := HZ8.out; omega)).trans HN8.out)
    have c0 := cell_of_row _ _ 0 _ _ _ HN9.out
    clear ST h0 h HB8 HY8 HD8 HN8 HZ8 hbf
    refine hK _ _ ?_
    by_cases hk1 : kd = 1
    rotate_left
    · have HS := Lib.hid (show ¬ ∃ j, Sent T j from fun ⟨j, hj⟩ => by
        obtain rfl := SA.out j hj
        exact hk1 (SI.out.2 hj).2.1)
      have e3 : ((kd : Int) != 1) = true := by simp; omega
      have e4 : ¬ (kd : Int) = 1 := by omega
      clear hk1
      go_wp2_with fail
      refine bodyPost_ret (v := .tuple #[.slice none 0 0, .slice none 0 0, .bool false]) (by simp [results, Tryz.results26, go_sem]) rfl ?_
      exact NO.out _ HS.out HB9.out
    · subst hk1
      cases q with
      | false =>
        have HS := Lib.hid (show ¬ ∃ j, Sent T j from fun ⟨j, hj⟩ => by
          obtain rfl := SA.out j hj
          have h1 := (SI.out.2 hj).2.2
          have h2 := HQ.out
          rw [h1] at h2
          simp at h2)
        go_wp2_with fail
        refine bodyPost_ret (v := .tuple #[.slice none 0 0, .slice none 0 0, .bool false]) (by simp [results, Tryz.results26, go_sem]) rfl ?_
        exact NO.out _ HS.out HB9.out
      | true =>
        by_cases hr0 : 0 < rl
        · have HS := Lib.hid (show ¬ ∃ j, Sent T j from fun ⟨j, hj⟩ => by
            obtain rfl := SA.out j hj
            have h1 := (SI.out.2 hj).1
            have h2 := HRL.out
            omega)
          have d1 : decide ((0 : Int) < (rl : Int)) = true := by simp; omega
          have d2 : decide (0 < rl) = true := by simpa using hr0
          clear hr0
          go_wp2_with fail
          refine bodyPost_ret (v := .tuple #[.slice none 0 0, .slice none 0 0, .bool false]) (by simp [results, Tryz.results26, go_sem]) rfl ?_
          exact NO.out _ HS.out HB9.out
        · have HS := Lib.hid (SI.out.1 ⟨by have := HRL.out; omega, rfl, by have := HQ.out; simpa using this⟩)
          have d1 : decide ((0 : Int) < (rl : Int)) = false := decide_eq_false (by omega)
          have d2 : decide (0 < rl) = false := decide_eq_false hr0
          clear hr0
          go_wp2_with fail
          refine bodyPost_ret (v := .tuple #[.slice A (m0 + 2) c, .slice (some ⟨b, off, none⟩) (m1 + 1) cf, .bool true]) (by simp [results, Tryz.results26, go_sem]) rfl ?_
          refine .inl ⟨m1, ⟨HVA.out, by rw [HT.out]; exact HS.out⟩, A, c, some ⟨b, off, none⟩, cf, by rw [HT.out, HN0.out], by rw [HT.out]; exact HY9.out, HB9.out⟩

set_option maxRecDepth 100000 in
set_option maxHeartbeats 1000000 in
theorem cprint_any (a : CI) (A1 A2 : Option Addr) (k1 k2 : Nat) (hf : 0 ≤ a.flags ∧ a.flags ≤ 255) (hb : ∀ r ∈ a.set, r.1 ≤ 4294967295 ∧ r.2 ≤ 4294967295)
    (l0 : a.tag.length ≤ 100000) (l3 : a.mbox.length ≤ 100000) (l1 : a.set.length ≤ 10000) (l2 : a.data.length ≤ 100000) (w : World) (he : EnvB w.heap.size w) (s1 : SlAt encR 2 w A1 a.set) (s2 : ByAt w.heap.size w A2 k2 a.data) :
    Calls Tryz.prog 11 #[ciV a A1 A2 k1 k2] w (PrPost a w) := by
  have HX := Lib.hid (heap_alloc_new w (.cells #[.string ⟨a.tag.toArray⟩, .int .i64 a.kind, .string ⟨a.mbox.toArray⟩, .slice A1 a.set.length k1, .int .i64 a.items, .int .i64 a.mode, .bool a.silent, .int .u8 a.flags, .slice A2 a.data.length k2] 26))
  have HB := Lib.hid (below_al w (.cells #[.string ⟨a.tag.toArray⟩, .int .i64 a.kind, .string ⟨a.mbox.toArray⟩, .slice A1 a.set.length k1, .int .i64 a.items, .int .i64 a.mode, .bool a.silent, .int .u8 a.flags, .slice A2 a.data.length k2] 26))
  have SE := Lib.hid (fun W (hW : Below w.heap.size w W) => csend_any a A1 A2 k1 k2 hf hb l0 l3 l1 l2 W ((he.below hW).mono hW.size) (s1.below hW) ((s2.below hW).mono hW.size))
  clear s1 s2 hf hb l0 l1 l2 l3 he
  unfold ciV at *
  go_enter Tryz.func11, Tryz.ntmps11
  go_upto_region 1 with (fail)
  generalize w.alloc (.cells #[.string ⟨a.tag.toArray⟩, .int .i64 a.kind, .string ⟨a.mbox.toArray⟩, .slice A1 a.set.length k1, .int .i64 a.items, .int .i64 a.mode, .bool a.silent, .int .u8 a.flags, .slice A2 a.data.length k2] 26) = W2 at *
  obtain ⟨x0, x1, x2, x3, x4, x5, x6, x7, x8⟩ := cells9 HX.out
  go_wp2_with fail
  refine (SE.out _ HB.out).mono ?_
  rintro e w3 (⟨j, ⟨hv, hs⟩, A, c, Af, cf, rfl, hy, hb3⟩ | ⟨hno, rfl, hb3⟩)
  · have HB3 := Lib.hid (below_next HB.out hb3)
    have HV := Lib.hid hv
    have HS := Lib.hid hs
    have HY := Lib.hid hy
    clear x0 x1 x2 x3 x4 x5 x6 x7 x8 HX hb3 SE HB hv hs hy
    generalize hn : (textT a ++ [13, 10]).length = n at *
    have HN := Lib.hid hn
    clear hn
    go_wp2_with fail
    go_ret2
    exact .inl ⟨⟨HV.out, j, HS.out⟩, A, c, by rw [HN.out]; rfl, HY.out, HB3.out⟩
  · have HB3 := Lib.hid (below_next HB.out hb3)
    have HN := Lib.hid hno
    clear x0 x1 x2 x3 x4 x5 x6 x7 x8 HX hb3 SE HB hno
    go_wp2_with fail
    go_ret2
    exact .inr ⟨HN.out, rfl, HB3.out⟩

set_option maxRecDepth 100000 in
set_option maxHeartbeats 1000000 in
theorem cliterals_any (a : CI) (A1 A2 : Option Addr) (k1 k2 : Nat) (hf : 0 ≤ a.flags ∧ a.flags ≤ 255) (hb : ∀ r ∈ a.set, r.1 ≤ 4294967295 ∧ r.2 ≤ 4294967295)
    (l0 : a.tag.length ≤ 100000) (l3 : a.mbox.length ≤ 100000) (l1 : a.set.length ≤ 10000) (l2 : a.data.length ≤ 100000) (w : World) (he : EnvB w.heap.size w) (s1 : SlAt encR 2 w A1 a.set) (s2 : ByAt w.heap.size w A2 k2 a.data) :
    Calls Tryz.prog 14 #[ciV a A1 A2 k1 k2] w fun e w' => ∃ k : Nat, e = .returned (.int .i64 (k : Int)) ∧ LitN a k ∧ Below w.heap.size w w' := by
  have HX := Lib.hid (heap_alloc_new w (.cells #[.string ⟨a.tag.toArray⟩, .int .i64 a.kind, .string ⟨a.mbox.toArray⟩, .slice A1 a.set.length k1, .int .i64 a.items, .int .i64 a.mode, .bool a.silent, .int .u8 a.flags, .slice A2 a.data.length k2] 26))
  have HB := Lib.hid (below_al w (.cells #[.string ⟨a.tag.toArray⟩, .int .i64 a.kind, .string ⟨a.mbox.toArray⟩, .slice A1 a.set.length k1, .int .i64 a.items, .int .i64 a.mode, .bool a.silent, .int .u8 a.flags, .slice A2 a.data.length k2] 26))
  have SE := Lib.hid (fun W (hW : Below w.heap.size w W) => csend_any a A1 A2 k1 k2 hf hb l0 l3 l1 l2 W ((he.below hW).mono hW.size) (s1.below hW) ((s2.below hW).mono hW.size))
  have HLN : Hid (validC a = true → (textT a).length ≤ 900000) := Lib.hid (fun hv => by
    obtain ⟨v1, v2, v3, v4, v5, v6⟩ := validC_int hv
    exact textT_len hf.1 (validC_bd hv).2.2 v3 v4 hb l0 l3 l1 l2)
  clear s1 s2 hf hb l0 l1 l2 l3 he
  unfold ciV at *
  go_enter Tryz.func14, Tryz.ntmps14
  go_upto_region 1 with (fail)
  generalize w.alloc (.cells #[.string ⟨a.tag.toArray⟩, .int .i64 a.kind, .string ⟨a.mbox.toArray⟩, .slice A1 a.set.length k1, .int .i64 a.items, .int .i64 a.mode, .bool a.silent, .int .u8 a.flags, .slice A2 a.data.length k2] 26) = W2 at *
  obtain ⟨x0, x1, x2, x3, x4, x5, x6, x7, x8⟩ := cells9 HX.out
  go_wp2_with fail
  refine (SE.out _ HB.out).mono ?_
  rintro e w3 (⟨j, ⟨hv, hs⟩, A, c, Af, cf, rfl, hy, hb3⟩ | ⟨hno, rfl, hb3⟩)
  · have HB3 := Lib.hid (below_next HB.out hb3)
    have HV := Lib.hid hv
    have HS := Lib.hid hs
    have hj : j ≤ 1000000 := by
      obtain ⟨fs, hr, rfl⟩ := hs
      have h1 := hr.len.1
      have h2 := HLN.out hv
      rw [List.length_append, List.length_append] at h1
      simp only [List.length_cons, List.length_nil] at h1
      omega
    have hw4 : IntKind.i64.wrap (j : Int) = (j : Int) := IntWalk.i64_in _ (by omega)
    clear x0 x1 x2 x3 x4 x5 x6 x7 x8 HX hb3 SE HB hv hs hy HLN
    generalize (textT a ++ [13, 10]).length = n at *
    go_wp2_with fail
    go_ret
    exact ⟨j, rfl, .inl ⟨HV.out, HS.out⟩, HB3.out⟩
  · have HB3 := Lib.hid (below_next HB.out hb3)
    have HN := Lib.hid hno
    clear x0 x1 x2 x3 x4 x5 x6 x7 x8 HX hb3 SE HB hno HLN
    go_wp2_with fail
    go_ret
    exact ⟨0, rfl, .inr ⟨HN.out, rfl⟩, HB3.out⟩
end Go.Proofs.YtpgfnlhfciacoaaGreatDoor
