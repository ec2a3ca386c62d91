/- The reference of layer 10: All. -/
import Derived.Test.YtpoejnajnaolpaaGreatDoorRf10P
import Derived.Test.YtpoejnajnaolpaaGreatDoorRpAl
namespace Go.Proofs.YtpoejnajnaolpaaGreatDoor
open Go.RowKit

set_option maxRecDepth 100000 in
set_option maxHeartbeats 8000000 in
theorem rall10_any (B c n : Nat) (A : Option Addr) (l : List UInt8) (hn : l.length = n) (hl : n ≤ 2000) (w : World) (hA : ByAt B w A c l) :
    Calls Tryz.prog 14 #[.slice A n c] w (AlPo l w) := by
  obtain ⟨i0, hi, hz0, hz1, hz2⟩ := info_parts infoRs
  have HA := Lib.hid (fun W (h : Below w.heap.size w W) => (hA.here.below h).here)
  have HN := Lib.hid hn
  clear hA hn
  go_enter Tryz.func14, Tryz.ntmps14
  go_wp2_with fail
  go_loopw [4, 5] (fun v i wr => ∃ (m p : Nat) (Av : Option Addr) (cv : Nat) (xs : List RX), i = .int .i64 (m : Int) ∧ v = .slice Av p cv ∧ m ≤ n ∧ p ≤ m ∧ Hid (xs.length = p) ∧ Hid (PreR l (xs.map fun x => x.r) m) ∧ Hid (RowR w.heap.size wr (.slice Av p cv) xs) ∧ Hid (Below w.heap.size w wr)) (fun _ i _ => n - (intOf i).toNat)
  case atStart => exact ⟨0, 0, none, 0, [], rfl, rfl, Nat.zero_le _, Nat.le_refl _, Lib.hid rfl, Lib.hid (PreR.zero l), Lib.hid (RowR.nil _ _), Lib.hid (Below.refl _ _)⟩
  case round =>
  obtain ⟨m, p, Av, cv, xs, rfl, rfl, hm, hp, hX, hP, hO, hB⟩ := hrel
  have PA := Lib.hid (rparse10_any _ c n A l (m : Int) (by omega) (by omega) HN.out hl wr (HA.out wr hB.out))
  go_wp2_with fail
  refine PA.out.mono ?_
  rintro e w1 ⟨hq, hb1⟩
  have HB1 := Lib.hid (below_next hB.out hb1)
  unfold PaPo at hq
  rcases hq with ⟨r, A2, c2, m2, hin, hrp, hm2, hml, rfl, hby, hnew⟩ | ⟨hno, rfl⟩
  · have hm2' : m2 = m + (rsForm r).length := hm2
    have HPS := Lib.hid (show PreR l ((xs ++ [(⟨r, A2, c2⟩ : RX)]).map fun x => x.r) m2 by
      rw [hm2', List.map_append]
      exact hP.out.step hrp)
    have hlt : m < m2 := by have := form_long r; omega
    have hmn : m2 ≤ n := by rw [← HN.out]; exact hml
    have HOFF := Lib.hid (hO.out.off hnew)
    have HAL := Lib.hid (below_al w1 (.cells (encRx ⟨r, A2, c2⟩).toArray 27))
    have HBK := Lib.hid (heap_alloc_new w1 (.cells (encRx ⟨r, A2, c2⟩).toArray 27))
    have HBY := Lib.hid hby
    have HB11 := Lib.hid hb1
    have hxr : Hid (encRx ⟨r, A2, c2⟩ = [.int .i64 r.kind, .int .u32 (r.n : Int), .string ⟨r.tag.toArray⟩, .int .i64 r.status, .string ⟨r.text.toArray⟩, .int .i64 r.items, .int .u8 (r.flags : Int), .int .u32 (r.uid : Int), .int .u32 (r.size : Int), .slice A2 r.body.length c2]) := Lib.hid rfl
    unfold rsV
    clear hm2 hm2' hml hrp hin hby hnew PA hb1
    unfold encRx at HAL HBK
    go_upto_region 4 with (fail)
    generalize w1.alloc (.cells [.int .i64 r.kind, .int .u32 (r.n : Int), .string ⟨r.tag.toArray⟩, .int .i64 r.status, .string ⟨r.text.toArray⟩, .int .i64 r.items, .int .u8 (r.flags : Int), .int .u32 (r.uid : Int), .int .u32 (r.size : Int), .slice A2 r.body.length c2].toArray 27) = W3 at *
    have HB3 := Lib.hid (below_next HB1.out HAL.out)
    have HWW := Lib.hid (below_next (below_next HB11.out HAL.out) (below_al W3 (.cells (encRx ⟨r, A2, c2⟩).toArray 27)))
    have HO4 := Lib.hid (hO.out.below HWW.out).own
    rw [hX.out] at HO4
    have HSX := Lib.hid (rsAt_one (HBY.out.below HAL.out).here).sl
    have HB4 := Lib.hid (below_next HB3.out (below_al W3 (.cells (encRx ⟨r, A2, c2⟩).toArray 27)))
    have HA4 := Lib.hid (below_next HAL.out (below_al W3 (.cells (encRx ⟨r, A2, c2⟩).toArray 27)))
    have HSZ := Lib.hid HB4.out.size
    obtain ⟨x0, x1, x2, x3, x4, x5, x6, x7, x8, x9⟩ := cells10 HBK.out
    have h63 : p + 1 ≤ maxLen := by unfold maxLen; omega
    have hbyt : (p + 1) * 104 ≤ 140737488355328 := by omega
    have H63 := Lib.hid h63
    have HBYT := Lib.hid hbyt
    clear h63 hbyt
    unfold encRx at HWW HO4 HSX HB4 HA4 HSZ
    go_wp2_with (at_builtin; refine wpList_append_slf _ rfl _ _ 32 rfl w.heap.size 27 i0 _ 104 Tryz.underlying32 hi hz0 hz1 hz2 rfl (by decide) _ p _ rfl HO4.out _ [(⟨r, A2, c2⟩ : RX)] _ rfl encRx_len HSX.out (one_flatR _) H63.out HBYT.out HSZ.out ?_; intro vv w3 hown3 hg3 hf3)
    obtain ⟨A3, c3, rfl⟩ := own_any hown3
    have RX' := Lib.hid (hO.out.snoc HWW.out (x := ⟨r, A2, c2⟩) ((HBY.out.below HA4.out).here.sl) HBY.out.le (.inr HOFF.out) (by rw [hX.out]; exact hown3) hg3 hf3)
    have HB5 := Lib.hid (HB4.out.grown hg3 HSZ.out (fun kk hkk => (HO4.out.lt kk hkk).1))
    have HX1 := Lib.hid (show (xs ++ [(⟨r, A2, c2⟩ : RX)]).length = p + 1 by rw [List.length_append, hX.out]; rfl)
    clear hown3 hg3 hf3
    go_roundw
    case rel => exact ⟨m2, p + 1, A3, c3, _, by go_num, rfl, hmn, by omega, HX1, HPS, RX', HB5⟩
    case measure => simp [intOf]; omega
  · have HST := Lib.hid (show Rps l (xs.map fun x => x.r) (l.drop m) from hP.out.stop (fun r hr => by
      by_cases hlt : m < n
      · exact hno ⟨by omega, by rw [HN.out]; omega⟩ r hr
      · rw [List.drop_eq_nil_of_le (by rw [HN.out]; omega)] at hr
        exact hr.not_nil))
    have HRS := Lib.hid ((hO.out.below hb1).rsAt hX.out.symm)
    have HLN := Lib.hid (show m + (l.drop m).length = l.length by rw [List.length_drop, HN.out]; omega)
    clear hno PA hb1
    unfold rsV
    go_wp2_with fail
    refine bodyPost_ret (v := .tuple #[.slice Av p cv, .int .i64 ((m : Nat) : Int)]) (by simp [results, Tryz.results14, go_sem]) rfl ⟨xs, Av, cv, l.drop m, m, HST.out, HLN.out, by rw [hX.out], ?_, ?_⟩
    · exact HRS.out.below (by repeat (first | exact Below.refl _ _ | refine belDrawN ?_ _ | refine belDraw ?_ | refine belAlloc ?_ _))
    · exact below_next HB1.out (by repeat (first | exact Below.refl _ _ | refine belDrawN ?_ _ | refine belDraw ?_ | refine belAlloc ?_ _))
end Go.Proofs.YtpoejnajnaolpaaGreatDoor
