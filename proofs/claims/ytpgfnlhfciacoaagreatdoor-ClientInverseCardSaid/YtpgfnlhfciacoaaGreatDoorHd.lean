/- The reference of layer 8: Print, Literals. -/
import Derived.Test.YtpgfnlhfciacoaaGreatDoorHc
import Derived.Test.YtpgfnlhfciacoaaGreatDoorGz
import Derived.Test.YtpgfnlhfciacoaaGreatDoorGh
import Derived.Test.YtpgfnlhfciacoaaGreatDoorKa
import Derived.IntWalk
namespace Go.Proofs.YtpgfnlhfciacoaaGreatDoor
open Go.RowKit

theorem byAt_lit8 (w : World) (l : List UInt8) (C : Array Value) (hC : (l.map fun x => Value.int .u8 (x.toNat : Int)).toArray = C) (t : TypeId) (fr : Nat × Nat) : ByAt (w.heap.size + 1) (w.alloc (.cells C t fr)) (some ⟨w.heap.size, 0, none⟩) l.length l := by
  subst hC
  refine ⟨Nat.le_refl _, .inr ⟨w.heap.size, 0, rfl, by omega, by simp, fun j hj => ?_⟩⟩
  rw [Nat.zero_add, World.cell?_alloc_mark]
  simp [hj]

set_option maxRecDepth 100000 in
set_option maxHeartbeats 2000000 in
theorem rprint_any (a : CI) (A1 A2 : Option Addr) (k1 k2 : Nat) (hf : 0 ≤ a.flags ∧ a.flags ≤ 255) (hb : ∀ r ∈ a.set, r.1 ≤ 4294967295 ∧ r.2 ≤ 4294967295)
    (l0 : a.tag.length ≤ 100000) (l3 : a.mbox.length ≤ 100000) (l1 : a.set.length ≤ 10000) (l2 : a.data.length ≤ 100000) (w : World) (s1 : SlAt encR 2 w A1 a.set) (s2 : ByAt w.heap.size w A2 k2 a.data) :
    Calls Tryz.prog 12 #[ciV a A1 A2 k1 k2] w (PrPost a w) := by
  have HX := Lib.hid (heap_alloc_new w (.cells #[.string ⟨a.tag.toArray⟩, .int .i64 a.kind, .string ⟨a.mbox.toArray⟩, .slice A1 a.set.length k1, .int .i64 a.items, .int .i64 a.mode, .bool a.silent, .int .u8 a.flags, .slice A2 a.data.length k2] 26))
  have HB := Lib.hid (below_al w (.cells #[.string ⟨a.tag.toArray⟩, .int .i64 a.kind, .string ⟨a.mbox.toArray⟩, .slice A1 a.set.length k1, .int .i64 a.items, .int .i64 a.mode, .bool a.silent, .int .u8 a.flags, .slice A2 a.data.length k2] 26))
  have HZ : Hid (_ = w.heap.size + 1) := Lib.hid (World.size_alloc w (.cells #[.string ⟨a.tag.toArray⟩, .int .i64 a.kind, .string ⟨a.mbox.toArray⟩, .slice A1 a.set.length k1, .int .i64 a.items, .int .i64 a.mode, .bool a.silent, .int .u8 a.flags, .slice A2 a.data.length k2] 26))
  have VA := Lib.hid (fun W (hW : Below w.heap.size w W) => rvalid_any a A1 A2 k1 k2 (by omega) (by omega) (by omega) (by omega) W (s1.below hW) ((s2.below hW).mono hW.size))
  rw [validR_eq] at VA
  have TX : Hid (validC a = true → ∀ W, Below w.heap.size w W → Calls Tryz.prog 28 #[ciV a A1 A2 k1 k2] W (TxPost (textT a) W)) := Lib.hid (fun hv W hW => by
    obtain ⟨v1, v2, v3, v4, v5, v6⟩ := validC_int hv
    have v7 := (validC_bd hv).2.2
    obtain ⟨tag, kind, mbox, set, items, mode, silent, flags, data⟩ := a
    simp only at v1 v2 v3 v4 v5 v6 v7 hf hb l0 l1 l2 l3 s1 s2
    obtain ⟨items, rfl⟩ := Int.eq_ofNat_of_zero_le v3
    obtain ⟨mode, rfl⟩ := Int.eq_ofNat_of_zero_le v5
    obtain ⟨flags, rfl⟩ := Int.eq_ofNat_of_zero_le hf.1
    exact rtext_any tag mbox data set kind items mode flags silent A1 A2 k1 k2 ⟨v1, v2⟩ (by omega) (by omega) (by omega) hb l0 l3 l1 l2 W (s1.below hW) ((s2.below hW).mono hW.size))
  have HL : Hid (validC a = true → (textT a).length ≤ 900000) := Lib.hid (fun hv => by
    obtain ⟨v1, v2, v3, v4, v5, v6⟩ := validC_int hv
    have v7 := (validC_bd hv).2.2
    exact textT_len hf.1 v7 v3 v4 hb l0 l3 l1 l2)
  clear s1 s2 hf hb l0 l1 l2 l3
  generalize hva : validC a = va at *
  have HVA := Lib.hid hva
  clear hva
  unfold ciV at *
  go_enter Tryz.func12, Tryz.ntmps12
  go_upto_region 1 with (fail)
  generalize w.alloc (.cells #[.string ⟨a.tag.toArray⟩, .int .i64 a.kind, .string ⟨a.mbox.toArray⟩, .slice A1 a.set.length k1, .int .i64 a.items, .int .i64 a.mode, .bool a.silent, .int .u8 a.flags, .slice A2 a.data.length k2] 26) = W2 at *
  obtain ⟨x0, x1, x2, x3, x4, x5, x6, x7, x8⟩ := cells9 HX.out
  go_wp2_with fail
  refine (VA.out _ HB.out).mono ?_
  rintro e w3 ⟨rfl, hb3⟩
  have HB3 := Lib.hid (below_next HB.out hb3)
  have HX3 := Lib.hid ((hb3.block w.heap.size (by have := HZ.out; omega)).trans HX.out)
  clear x0 x1 x2 x3 x4 x5 x6 x7 x8 HX hb3 VA HB HZ
  cases va with
  | false =>
    go_wp2_with fail
    go_ret2
    exact .inr ⟨(fun h => by have := h.1; rw [HVA.out] at this; exact absurd this (by decide)), rfl, HB3.out⟩
  | true =>
    have TX2 := Lib.hid (TX.out rfl)
    have HL2 := Lib.hid (HL.out rfl)
    clear TX HL
    obtain ⟨x0, x1, x2, x3, x4, x5, x6, x7, x8⟩ := cells9 HX3.out
    obtain ⟨T, hT⟩ : ∃ T, textT a = T := ⟨_, rfl⟩
    have HT := Lib.hid hT
    rw [hT] at TX2 HL2
    clear hT
    go_wp2_with fail
    refine (TX2.out _ HB3.out).mono ?_
    rintro e w4 ⟨g, cap, rfl, hg, hcap, hrow, hby, hb4⟩
    have hglt := (Array.getElem?_eq_some_iff.1 hrow).1
    have HROW := Lib.hid (fun o => ((below_al w4 o).block g hglt).trans hrow)
    have HLIT := Lib.hid (fun fr => byAt_lit8 w4 [13, 10] #[.int .u8 13, .int .u8 10] rfl 5 fr)
    have HSZ := Lib.hid (bsz T)
    have HB4 := Lib.hid (below_next HB3.out hb4)
    have HG := Lib.hid (show w.heap.size ≤ g from Nat.le_trans HB3.out.size hg)
    have HS3 := Lib.hid hb4.size
    obtain ⟨n, hn⟩ : ∃ n, T.length + 2 = n := ⟨_, rfl⟩
    have HN := Lib.hid hn
    have hn2 : n ≤ 900002 := by have := HL2.out; omega
    have HC := Lib.hid hcap
    have hm9 : T.length + 2 ≤ 1000000000 := by omega
    have HM9 := Lib.hid hm9
    clear hrow hb4 hby hg hn hglt x0 x1 x2 x3 x4 x5 x6 x7 x8 hcap hm9
    have HBA := Lib.hid (fun o => below_next HB4.out (below_al w4 o))
    have HGW := Lib.hid (fun o => (show w.heap.size ≤ (w4.alloc o).heap.size by rw [World.size_alloc]; have := HB4.out.size; omega))
    obtain ⟨m0, hm0⟩ : ∃ m0, T.length = m0 := ⟨_, rfl⟩
    have HM0 := Lib.hid hm0
    rw [hm0] at HSZ HC HN HM9
    rw [hm0]
    clear hm0
    go_wp2_with (at_builtin; refine wpList_append_str rfl _ _ rfl g cap m0 ⟨T.toArray⟩ HSZ.out HC.out rfl (HROW.out _) _ _ 2 [13, 10] rfl (HLIT.out _) HM9.out n HN.out ?_; intro A' c' w6 hR h6)
    have HB6 := Lib.hid ((HBA.out _).trans (h6.mono HG.out))
    have HR := Lib.hid (show ByAt w6.heap.size w6 A' c' (T ++ [13, 10]) from hR.out)
    clear hR h6 HROW HLIT HSZ HBA HGW HC HM9
    have HNL := Lib.hid (show (T ++ [13, 10]).length = n by rw [List.length_append, HM0.out]; exact HN.out)
    have SP := Lib.hid (refSplit_any w6.heap.size c' n A' (T ++ [13, 10]) HNL.out (by omega) w6 HR.out)
    go_wp2_with fail
    refine SP.out.mono ?_
    rintro e w7 ⟨v, vs, fs, R, k, rfl, hO, hF, hb7, hrun, hdone⟩
    obtain ⟨Af, cf, rfl⟩ := own_any hO
    have HFS := Lib.hid (FsAt.of_own hO hF)
    have HB7 := Lib.hid (below_next HB6.out hb7)
    have HR7 := Lib.hid ((HR.out.below hb7).mono hb7.size)
    have HRUN := Lib.hid hrun
    have HDONE := Lib.hid hdone
    have hfl : fs.length ≤ 1000000 := by have := hrun.len.1; rw [HNL.out] at this; omega
    have hRl : R.length ≤ 1000000 := by have := hrun.len.2.1; rw [HNL.out] at this; omega
    have NO : Hid (∀ w', (¬ ∃ j, Sent T j) → Below w.heap.size w w' → PrPost a w (.returned (.tuple #[.slice none 0 0, .bool false])) w') := Lib.hid (fun w' hs hb => .inr ⟨(fun h => hs (by rw [← HT.out]; exact h.2)), rfl, hb⟩)
    clear hO hF hb7 hrun hdone SP HR HB6
    by_cases hR0 : 0 < R.length
    · have HS := Lib.hid (show ¬ ∃ j, Sent T j from fun ⟨j, hj⟩ => by
        obtain rfl := sent_any HRUN.out HDONE.out hj
        have := ((sent_iff HRUN.out HDONE.out).2 hj).1
        omega)
      have d1 : decide ((0 : Int) < (R.length : Int)) = true := by simp; omega
      have d2 : decide (0 < R.length) = true := by simpa using hR0
      clear hR0 HRUN HDONE
      generalize R.length = rl at *
      generalize fs.length = fl at *
      go_wp2_with fail
      go_quiet (fail)
      go_wp2_with fail
      go_ret2
      exact NO.out _ HS.out (below_next HB7.out (drewN_below7 _ _))
    · have d1 : decide ((0 : Int) < (R.length : Int)) = false := decide_eq_false (by omega)
      have d2 : decide (0 < R.length) = false := decide_eq_false hR0
      have hR00 : R.length = 0 := by omega
      have HR00 := Lib.hid hR00
      clear hR0 hR00
      generalize hrl : R.length = rl at *
      have HRL := Lib.hid hrl
      clear hrl
      by_cases hf0 : fs.length = 0
      · have HS := Lib.hid (show ¬ ∃ j, Sent T j from fun ⟨j, hj⟩ => by
          obtain rfl := sent_any HRUN.out HDONE.out hj
          obtain ⟨_, hl, _⟩ := (sent_iff HRUN.out HDONE.out).2 hj
          omega)
        have e1 : ((fs.length : Int) == 0) = true := by simp [hf0]
        have e2 : (fs.length == 0) = true := by simp [hf0]
        clear hf0 HRUN HDONE
        generalize fs.length = fl at *
        go_wp2_with fail
        go_quiet (fail)
        go_wp2_with fail
        go_ret2
        exact NO.out _ HS.out (below_next HB7.out (drewN_below7 _ _))
      · obtain ⟨m1, hm1⟩ : ∃ m1, fs.length = m1 + 1 := ⟨fs.length - 1, by omega⟩
        have hj : m1 < fs.length := by omega
        obtain ⟨b, off, Ad, cd, rfl, hbb, c0, c1, cby⟩ := HFS.out.at hj
        have cvd := fun j => convS _ (w7.drewN j) Ad cd _ fs[m1].data (cby.below (drewN_below7 w7 j)) rfl
        have hm0c : m0 ≤ c' := by have := HR7.out.le; rw [HNL.out] at this; have := HN.out; omega
        have hbT : ByAt w7.heap.size w7 A' c' T := by
          have h := HR7.out.take (hi := T.length) (by simp)
          rwa [List.take_append_of_le_length (Nat.le_refl _), List.take_length] at h
        have cvb := fun j => convS _ (w7.drewN j) A' c' m0 T (hbT.below (drewN_below7 w7 j)) HM0.out
        clear hbT
        have hsl := fun W => slice_h A' n c' m0 hm0c W
        have hse := fun x lo hi mx W => sliceAt_eq x lo hi mx W
        have hw2 : (n : Int) - 2 = (m0 : Int) := by have := HN.out; omega
        have hw3 : IntKind.i64.wrap (m0 : Int) = (m0 : Int) := IntWalk.i64_in _ (by have := HN.out; omega)
        have hw4 : IntKind.i64.wrap (m1 : Int) = (m1 : Int) := IntWalk.i64_in _ (by omega)
        have e1 : (((m1 + 1 : Nat) : Int) == 0) = false := by simp; omega
        have e2 : ((m1 : Int) + 1 == 0) = false := by simp; omega
        have SI : Hid ((fs[m1].kind = 1 ∧ fs[m1].data = T) ↔ Sent T m1) := Lib.hid (by
          have h := sent_iff HRUN.out HDONE.out
          have hz : fs.length - 1 = m1 := by omega
          constructor
          · rintro ⟨h1, h2⟩
            rw [← hz]
            refine h.1 ⟨by rw [HRL.out, HR00.out], by omega, ?_, ?_⟩
            · simp only [hz]; exact h1
            · simp only [hz]; exact h2
          · intro hs
            rw [← hz] at hs
            obtain ⟨_, _, h1, h2⟩ := h.2 hs
            simp only [hz] at h1 h2
            exact ⟨h1, h2⟩)
        have SA : Hid (∀ j, Sent T j → j = m1) := Lib.hid (fun j hj => by have := sent_any HRUN.out HDONE.out hj; omega)
        generalize fs[m1].kind = kd at *
        generalize fs[m1].data = dt at *
        rw [hm1]
        clear hm1 hj hf0 HRUN HDONE HFS cby hm0c hfl
        generalize hdl : dt.length = dl at *
        have HDL := Lib.hid hdl
        clear hdl
        have hi0 : (0 : Int) ≤ (m1 : Int) := by omega
        have hi1 : (m1 : Int) < (m1 : Int) + 1 := by omega
        by_cases hk1 : kd = 1
        rotate_left
        · have HS := Lib.hid (show ¬ ∃ j, Sent T j from fun ⟨j, hj⟩ => by
            obtain rfl := SA.out j hj
            exact hk1 (SI.out.2 hj).1)
          have e3 : ((kd : Int) != 1) = true := by simp; omega
          have e4 : ¬ (kd : Int) = 1 := by omega
          clear hk1
          go_wp2_with fail
          go_quiet (fail)
          go_wp2_with fail
          go_ret2
          exact NO.out _ HS.out (below_next HB7.out (drewN_below7 _ _))
        · subst hk1
          cases hd : (dt == T) with
          | false =>
            have HS := Lib.hid (show ¬ ∃ j, Sent T j from fun ⟨j, hj⟩ => by
              obtain rfl := SA.out j hj
              have := (SI.out.2 hj).2
              rw [this] at hd
              simp at hd)
            have e5 : (dt != T) = true := by simp [bne, hd]
            go_wp2_with fail
            go_quiet (fail)
            go_wp2_with fail
            go_ret2
            exact NO.out _ HS.out (below_next HB7.out (drewN_below7 _ _))
          | true =>
            have HS := Lib.hid (SI.out.1 ⟨rfl, by simpa using hd⟩)
            have e5 : (dt != T) = false := by simp [bne, hd]
            go_wp2_with fail
            go_quiet (fail)
            go_wp2_with fail
            go_ret2
            exact .inl ⟨⟨HVA.out, m1, by rw [HT.out]; exact HS.out⟩, A', c', (by rw [HT.out, HNL.out]; rfl), (by rw [HT.out]; exact HR7.out.below (drewN_below7 _ _)), below_next HB7.out (drewN_below7 _ _)⟩
end Go.Proofs.YtpgfnlhfciacoaaGreatDoor

namespace Go.Proofs.YtpgfnlhfciacoaaGreatDoor
open Go.RowKit

set_option maxRecDepth 100000 in
set_option maxHeartbeats 2000000 in
theorem rliterals_any (a : CI) (A1 A2 : Option Addr) (k1 k2 : Nat) (hf : 0 ≤ a.flags ∧ a.flags ≤ 255) (hb : ∀ r ∈ a.set, r.1 ≤ 4294967295 ∧ r.2 ≤ 4294967295)
    (l0 : a.tag.length ≤ 100000) (l3 : a.mbox.length ≤ 100000) (l1 : a.set.length ≤ 10000) (l2 : a.data.length ≤ 100000) (w : World) (s1 : SlAt encR 2 w A1 a.set) (s2 : ByAt w.heap.size w A2 k2 a.data) :
    Calls Tryz.prog 15 #[ciV a A1 A2 k1 k2] w fun e w' => ∃ k : Nat, e = .returned (.int .i64 (k : Int)) ∧ LitN a k ∧ Below w.heap.size w w' := by
  have HX := Lib.hid (heap_alloc_new w (.cells #[.string ⟨a.tag.toArray⟩, .int .i64 a.kind, .string ⟨a.mbox.toArray⟩, .slice A1 a.set.length k1, .int .i64 a.items, .int .i64 a.mode, .bool a.silent, .int .u8 a.flags, .slice A2 a.data.length k2] 26))
  have HB := Lib.hid (below_al w (.cells #[.string ⟨a.tag.toArray⟩, .int .i64 a.kind, .string ⟨a.mbox.toArray⟩, .slice A1 a.set.length k1, .int .i64 a.items, .int .i64 a.mode, .bool a.silent, .int .u8 a.flags, .slice A2 a.data.length k2] 26))
  have PR := Lib.hid (fun W (hW : Below w.heap.size w W) => rprint_any a A1 A2 k1 k2 hf hb l0 l3 l1 l2 W (s1.below hW) ((s2.below hW).mono hW.size))
  have HLN : Hid (validC a = true → (textT a).length ≤ 900000) := Lib.hid (fun hv => by
    obtain ⟨v1, v2, v3, v4, v5, v6⟩ := validC_int hv
    exact textT_len hf.1 (validC_bd hv).2.2 v3 v4 hb l0 l3 l1 l2)
  clear s1 s2 hf hb l0 l1 l2 l3
  unfold ciV at *
  go_enter Tryz.func15, Tryz.ntmps15
  go_upto_region 1 with (fail)
  generalize w.alloc (.cells #[.string ⟨a.tag.toArray⟩, .int .i64 a.kind, .string ⟨a.mbox.toArray⟩, .slice A1 a.set.length k1, .int .i64 a.items, .int .i64 a.mode, .bool a.silent, .int .u8 a.flags, .slice A2 a.data.length k2] 26) = W2 at *
  obtain ⟨x0, x1, x2, x3, x4, x5, x6, x7, x8⟩ := cells9 HX.out
  go_wp2_with fail
  refine (PR.out _ HB.out).mono ?_
  rintro e w3 (⟨⟨hv, k, hs⟩, A, c, rfl, hby, hb3⟩ | ⟨hno, rfl, hb3⟩)
  · have HB3 := Lib.hid (below_next HB.out hb3)
    have HV := Lib.hid hv
    have HS := Lib.hid hs
    have hln := HLN.out hv
    obtain ⟨n, hn⟩ : ∃ n, (textT a ++ [13, 10]).length = n := ⟨_, rfl⟩
    have hn9 : n ≤ 1000000 := by rw [← hn, List.length_append]; simp only [List.length_cons, List.length_nil]; omega
    have SP := Lib.hid (refSplit_any w3.heap.size c n A (textT a ++ [13, 10]) hn hn9 w3 hby)
    rw [hn]
    have HN9 : Hid ((textT a ++ [13, 10]).length ≤ 1000000) := Lib.hid (by omega)
    clear x0 x1 x2 x3 x4 x5 x6 x7 x8 hb3 PR HX HB hv hs hby hn hln hn9 HLN
    go_wp2_with fail
    refine SP.out.mono ?_
    rintro e w4 ⟨v, vs, fs, R, k', rfl, hO, hF, hb4, hrun, hdone⟩
    obtain ⟨Af, cf, rfl⟩ := own_any hO
    have hk := sent_any hrun hdone HS.out
    have hl : 0 < fs.length := by
      have h := HS.out
      rw [hk] at h
      exact ((sent_iff hrun hdone).2 h).2.1
    obtain ⟨m, hm⟩ : ∃ m, fs.length = m + 1 := ⟨fs.length - 1, by omega⟩
    have HM := Lib.hid (show k = m by omega)
    have hml : m ≤ 1000000 := by
      have := hrun.len.1
      rw [hm] at this
      have h2 := HN9.out
      omega
    have HB4 := Lib.hid (below_next HB3.out hb4)
    rw [hm]
    clear hO hF hb4 hrun hdone hk hl hm SP
    go_wp2_with fail
    go_ret
    exact ⟨m, rfl, .inl ⟨HV.out, by rw [← HM.out]; exact HS.out⟩, HB4.out⟩
  · have HB3 := Lib.hid (below_next HB.out hb3)
    have HN := Lib.hid hno
    clear x0 x1 x2 x3 x4 x5 x6 x7 x8 hb3 PR HX HB hno
    go_wp2_with fail
    go_ret
    exact ⟨0, rfl, .inr ⟨HN.out, rfl⟩, HB3.out⟩
end Go.Proofs.YtpgfnlhfciacoaaGreatDoor
