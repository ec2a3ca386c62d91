/- The reference of layer 8: Stream. -/
import Derived.Test.YtpgfnlhfciacoaaGreatDoorHd
import Derived.Test.YtpgfnlhfciacoaaGreatDoorKh
import Derived.Test.YtpgfnlhfciacoaaGreatDoorGa
namespace Go.Proofs.YtpgfnlhfciacoaaGreatDoor
open Go.RowKit

set_option maxRecDepth 100000 in
set_option maxHeartbeats 2000000 in
theorem rstream_any (xs : List CX) (A : Option Addr) (c n : Nat) (hn : xs.length = n) (hl : n ≤ 100) (hsm : ∀ x ∈ xs, SmallX x) (w : World) (hS : XsAt w A xs) :
    Calls Tryz.prog 18 #[.slice A n c] w (StPost xs w) := by
  obtain ⟨i0, hi, hz0, hz1, hz2⟩ := info_parts infoByte
  have HS := Lib.hid hS
  have HN := Lib.hid hn
  have HM := Lib.hid hsm
  clear hS hn hsm
  go_enter Tryz.func18, Tryz.ntmps18
  go_wp2_with fail
  go_loopw [4, 5] (fun v i wr => ∃ (k m : Nat) (Av : Option Addr) (cv : Nat), k ≤ n ∧ i = .int .i64 (k : Int) ∧ v = .slice Av m cv ∧ m ≤ 900002 * k ∧ Hid (m = (strT (xs.take k)).length) ∧ Hid (∀ x ∈ xs.take k, okX x) ∧ Hid (wr.ownsRow w.heap.size 5 1 (.slice Av m cv) m (flatL encB (strT (xs.take k)))) ∧ Hid (Below w.heap.size w wr)) (fun _ i _ => n - (intOf i).toNat)
  case atStart => exact ⟨0, 0, none, 0, Nat.zero_le _, rfl, rfl, by omega, Lib.hid rfl, Lib.hid (fun x hx => by cases hx), Lib.hid (World.ownsRow_nil _ _ _ _), Lib.hid (Below.refl _ _)⟩
  case round =>
    obtain ⟨k, m, Av, cv, hk, rfl, rfl, hm9, hmm, hK, hO, hB⟩ := hrel
    by_cases hlt : k < n
    · have hlx : k < xs.length := by rw [HN.out]; exact hlt
      obtain ⟨b, off, rfl, _, c0, c1, c2, c3, c4, c5, c6, c7, c8⟩ := (HS.out.below hB.out).at hlx
      have hk0 : (0 : Int) ≤ (k : Int) := by omega
      have hk1 : (k : Int) < (n : Int) := by omega
      obtain ⟨e1, e2⟩ := (HS.out.below hB.out).each _ (List.getElem_mem hlx)
      have hsx := HM.out _ (List.getElem_mem hlx)
      have PR := Lib.hid (rprint_any xs[k].c xs[k].A1 xs[k].A2 xs[k].k1 xs[k].k2 hsx.1 hsx.2.1 hsx.2.2.1 hsx.2.2.2.1 hsx.2.2.2.2.1 hsx.2.2.2.2.2 wr e1 e2)
      have HLN := Lib.hid (fun h => line_len hsx h)
      have HTK := Lib.hid (fun h => take_okX hlx hK.out h)
      have HST := Lib.hid (strT_snoc hlx)
      have HNO := Lib.hid (fun (h : ¬ okX xs[k]) => (show ¬ ∀ x ∈ xs, okX x from fun h2 => h (h2 _ (List.getElem_mem hlx))))
      have HOK : Hid ((validC xs[k].c = true ∧ ∃ j, Sent (textT xs[k].c) j) ↔ okX xs[k]) := Lib.hid Iff.rfl
      unfold ciV PrPost at PR
      have HLT : Hid (textT xs[k].c ++ [13, 10] = lineT xs[k]) := Lib.hid rfl
      rw [HLT.out] at PR
      clear hsx e1 e2 HLT
      generalize lineT xs[k] = L at *
      generalize xs[k].c.tag = v0 at *
      generalize xs[k].c.kind = v1 at *
      generalize xs[k].c.mbox = v2 at *
      generalize xs[k].A1 = v3 at *
      generalize xs[k].c.set.length = v4 at *
      generalize xs[k].k1 = v5 at *
      generalize xs[k].c.items = v6 at *
      generalize xs[k].c.mode = v7 at *
      generalize xs[k].c.silent = v8 at *
      generalize xs[k].c.flags = v9 at *
      generalize xs[k].A2 = v10 at *
      generalize xs[k].c.data.length = v11 at *
      generalize xs[k].k2 = v12 at *
      go_wp2_with fail
      refine PR.out.mono ?_
      rintro e w1 (⟨hok, A2, c2', rfl, hby, hb1⟩ | ⟨hno, rfl, hb1⟩)
      · have HB1 := Lib.hid (below_next hB.out hb1)
        have HO1 := Lib.hid (own_below hO.out hb1)
        have HL := Lib.hid (HLN.out hok.1)
        have HTK2 := Lib.hid (HTK.out (HOK.out.1 hok))
        have HBY := Lib.hid hby
        obtain ⟨q, hq⟩ : ∃ q, L.length = q := ⟨_, rfl⟩
        have HQ := Lib.hid hq
        have hq9 : q ≤ 900002 := by rw [← hq]; exact HL.out
        have h63 : m + L.length ≤ maxLen := by unfold maxLen; omega
        have hbyt : (m + L.length) * 1 ≤ 140737488355328 := by omega
        have H63 := Lib.hid h63
        have HBYT := Lib.hid hbyt
        have HSZ := Lib.hid HB1.out.size
        clear hok hby hb1 PR HLN HTK HOK HNO hq h63 hbyt c0 c1 c2 c3 c4 c5 c6 c7 c8
        go_wp2_with (at_builtin; refine wpList_append_sl _ rfl _ _ 24 rfl w.heap.size 5 i0 _ 1 Tryz.underlying24 hi hz0 hz1 hz2 rfl (by decide) _ m _ rfl HO1.out A2 L c2' rfl encB_len HBY.out.sl (one_flatB L) H63.out HBYT.out HSZ.out ?_; intro vv w3 hown3 hg3)
        rw [HQ.out] at hown3
        obtain ⟨A3, c3, rfl⟩ := own_any hown3
        have HB3 := Lib.hid (HB1.out.grown hg3 HSZ.out (fun kk hkk => (HO1.out.lt kk hkk).1))
        have HO3 := Lib.hid hown3
        have HMQ := Lib.hid (show m + q = (strT (xs.take (k + 1))).length by rw [HST.out, List.length_append, ← hmm.out, HQ.out])
        rw [← flatL_append, ← HST.out] at HO3
        clear hown3 hg3 HO1 HBY H63 HBYT HSZ
        go_wp2_with fail
        go_roundw
        case rel => exact ⟨k + 1, m + q, A3, c3, by omega, by go_num, rfl, by omega, HMQ, HTK2, HO3, HB3⟩
        case measure => simp [intOf]; omega
      · have HB1 := Lib.hid (below_next hB.out hb1)
        have HF := Lib.hid (HNO.out (fun h => hno (HOK.out.2 h)))
        clear hno hb1 PR HLN HTK HOK HNO c0 c1 c2 c3 c4 c5 c6 c7 c8
        go_wp2_with fail
        go_ret2
        exact .inr ⟨HF.out, rfl, HB1.out⟩
    · obtain rfl : k = n := by omega
      have ht : xs.take k = xs := List.take_of_length_le (by rw [HN.out]; exact Nat.le_refl _)
      have HA : Hid (∀ x ∈ xs, okX x) := Lib.hid (by have := hK.out; rwa [ht] at this)
      have HMM : Hid (m = (strT xs).length) := Lib.hid (by have := hmm.out; rwa [ht] at this)
      have HBY : Hid (ByAt wr.heap.size wr Av cv (strT xs)) := Lib.hid (by
        have := hO.out
        rw [ht, HMM.out] at this
        exact ByAt.of_own this)
      clear ht hK hO hmm
      go_wp2_with fail
      go_ret2
      exact .inl ⟨HA.out, Av, cv, by rw [← HMM.out]; rfl, HBY.out, hB.out⟩
end Go.Proofs.YtpgfnlhfciacoaaGreatDoor
