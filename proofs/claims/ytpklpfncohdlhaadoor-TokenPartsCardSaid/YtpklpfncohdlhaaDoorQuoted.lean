/- quote: Quoted. -/
import Derived.Test.YtpklpfncohdlhaaDoorCont
import Derived.Test.YtpklpfncohdlhaaDoorCol
namespace Go.Proofs.YtpklpfncohdlhaaDoor
open Go.RowKit

set_option maxRecDepth 100000 in
set_option maxHeartbeats 1000000 in
theorem quoted_no (B : Nat) (A : Option Addr) (c : Nat) (l : List UInt8) (hl : l.length ≤ 1000000) (w : World) (hA : ByAt B w A c l) (ha : allT l = false) :
    Calls Tryd.prog 40 #[.slice A l.length c] w fun e w' => e = .returned (.tuple #[.string ⟨#[]⟩, .bool false]) ∧ Below w.heap.size w w' := by
  have C := contText_any B A c l (by omega) w hA
  rw [ha] at C
  have C := Lib.hid C
  clear ha hA
  go_enter Tryd.func40, Tryd.ntmps40
  go_wp2_with fail
  refine C.out.mono ?_
  rintro e w1 ⟨rfl, hb⟩
  go_wp2_with fail
  go_ret2
  exact ⟨rfl, hb⟩

set_option maxRecDepth 100000 in
set_option maxHeartbeats 2000000 in
theorem quoted_yes (B : Nat) (A : Option Addr) (c : Nat) (l : List UInt8) (hl : l.length ≤ 1000000) (w : World) (hA : ByAt B w A c l) (ha : allT l = true) :
    Calls Tryd.prog 40 #[.slice A l.length c] w fun e w' => e = .returned (.tuple #[.string ⟨(quotedL l).toArray⟩, .bool true]) ∧ Below w.heap.size w w' := by
  have C := contText_any B A c l (by omega) w hA
  rw [ha] at C
  have C := Lib.hid C
  have HA := Lib.hid hA.here
  have SP := Lib.hid (fun n h w1 => special_any n h w1)
  have hle := hA.le
  clear ha hA
  have CO := Lib.hid (fun w1 => collector_any (2 * l.length + 2) (by omega) w1)
  have eco : ((2 * l.length + 2 : Nat) : Int) = 2 * (l.length : Int) + 2 := by omega
  rw [eco] at CO
  clear eco
  obtain ⟨size, hsz⟩ : ∃ n, n = 2 * l.length + 2 := ⟨_, rfl⟩
  rw [← hsz] at CO
  have HSZ := Lib.hid hsz
  have hs1 : size ≤ 2 * l.length + 2 := by omega
  have hs2 : 2 * l.length + 2 ≤ size := by omega
  clear hsz
  go_enter Tryd.func40, Tryd.ntmps40
  go_wp2_with fail
  refine C.out.mono ?_
  rintro e w1 ⟨rfl, hb⟩
  clear C
  go_wp2_with fail
  refine (CO.out _).mono ?_
  rintro e w2 ⟨g, bu, ba, rfl, hC, h2⟩
  have hB2 := below_next hb h2
  have P1 := Lib.hid (put_at w1.heap.size g bu ba size [] [34] _ _ 1 1 1 rfl rfl (by omega) (by omega) _ (hC.below (below_al w2 (.cells #[.int .u8 34] 5))) (byAt_34 w2))
  have hz := hb.size
  clear CO hC h2 hb
  go_wp2_with fail
  refine P1.out.mono ?_
  rintro e w3 ⟨rfl, hC3, h3⟩
  have hB3 := (hB2.alloc hB2.size (.cells #[.int .u8 34] 5)).trans (h3.mono hz)
  clear P1 h3 hB2
  have hse := fun x lo hi mx W => sliceAt_eq x lo hi mx W
  generalize w1.heap.size = B1 at *
  go_wp2_with fail
  go_loopw [5, 20] (fun f i wr => ∃ (k fr : Nat) (X : List UInt8), k ≤ l.length ∧ fr ≤ k ∧ f = .int .i64 (fr : Int) ∧ i = .int .i64 (k : Int) ∧ Hid (X ++ (l.take k).drop fr = 34 :: escL (l.take k)) ∧ Hid (Col B1 g bu ba size X wr) ∧ Below w.heap.size w wr) (fun _ i _ => l.length - (intOf i).toNat)
  case atStart => exact ⟨0, 0, [34], Nat.zero_le _, Nat.le_refl _, rfl, rfl, rfl, hC3, hB3⟩
  case round =>
    obtain ⟨k, fr, X, hk, hfr, rfl, rfl, hX, hC, hB⟩ := hrel
    have HQ := q_len hk hfr hX.out
    by_cases hlt : k < l.length
    · obtain ⟨b, off, rfl, _, _, hc⟩ := (HA.out.below hB).cell hlt
      have hn : l[k].toNat ≤ 255 := by have := l[k].toNat_lt; omega
      have S := SP.out l[k].toNat hn wr
      cases hs : spN l[k].toNat with
      | false =>
        have HN := Lib.hid (q_step_plain hlt hfr hX.out hs)
        rw [hs] at S
        have S := Lib.hid S
        clear hs
        go_wp2_with fail
        refine S.out.mono ?_
        rintro e w4 ⟨rfl, rfl⟩
        go_wp2_with fail
        go_roundw
        case rel => exact ⟨k + 1, fr, X, by omega, by omega, rfl, by go_num, HN.out, hC, hB⟩
        case measure => simp [intOf]; omega
      | true =>
        have HN := Lib.hid (q_step_sp hlt hX.out hs)
        rw [hs] at S
        have S := Lib.hid S
        clear hs
        have hsl := fun W => slice_lh (some ⟨b, off, none⟩) l.length c fr k hfr (by omega) W
        have P1 := Lib.hid (put_at B1 g bu ba size X ((l.take k).drop fr) _ _ (c - fr) (k - fr) (X.length + (k - fr)) (cut_len hk) rfl (by omega) (by omega) wr hC.out ((HA.out.below hB).cut hfr hk))
        go_wp2_with fail
        refine S.out.mono ?_
        rintro e w4 ⟨rfl, rfl⟩
        go_wp2_with fail
        refine P1.out.mono ?_
        rintro e w5 ⟨rfl, hC5, h5⟩
        have hB5 := hB.trans (h5.mono hz)
        have P2 := Lib.hid (put_at B1 g bu ba size (X ++ (l.take k).drop fr) [92] _ _ 1 1 (X.length + (k - fr) + 1) rfl (by rw [List.length_append, cut_len hk]) (by omega) (by omega) _ (hC5.out.below (below_al w5 (.cells #[.int .u8 92] 5))) (byAt_92 w5))
        clear P1 h5 hC5
        go_wp2_with fail
        refine P2.out.mono ?_
        rintro e w6 ⟨rfl, hC6, h6⟩
        have hB6 := (hB5.alloc hB5.size (.cells #[.int .u8 92] 5)).trans (h6.mono hz)
        clear P2 h6
        go_wp2_with fail
        go_roundw
        case rel => exact ⟨k + 1, k, _, by omega, by omega, rfl, by go_num, HN.out, hC6, hB6⟩
        case measure => simp [intOf]; omega
    · obtain rfl : k = l.length := by omega
      have HN := Lib.hid (q_end hX.out)
      have hsl := fun W => slice_l A l.length c fr hfr W
      have P1 := Lib.hid (put_at B1 g bu ba size X (l.drop fr) _ _ (c - fr) (l.length - fr) (X.length + (l.length - fr)) (by rw [List.length_drop]) rfl (by omega) (by omega) wr hC.out ((HA.out.below hB).drop hfr))
      go_wp2_with fail
      refine P1.out.mono ?_
      rintro e w5 ⟨rfl, hC5, h5⟩
      have hB5 := hB.trans (h5.mono hz)
      obtain ⟨m, hm⟩ : ∃ m, X.length + (l.length - fr) + 1 = m := ⟨_, rfl⟩
      have hmX : (X ++ l.drop fr ++ [34]).length = m := by rw [List.length_append, List.length_append, List.length_drop, ← hm]; rfl
      have P2 := Lib.hid (put_at B1 g bu ba size (X ++ l.drop fr) [34] _ _ 1 1 m rfl (by rw [List.length_append, List.length_drop]; omega) (by omega) (by omega) _ (hC5.out.below (below_al w5 (.cells #[.int .u8 34] 5))) (byAt_34 w5))
      have HMX := Lib.hid hmX
      clear P1 h5 hC5 hm hmX
      go_wp2_with fail
      refine P2.out.mono ?_
      rintro e w6 ⟨rfl, hC6, h6⟩
      have hB6 := (hB5.alloc hB5.size (.cells #[.int .u8 34] 5)).trans (h6.mono hz)
      have hcv := convS _ w6 (some ⟨g, 0, none⟩) size m _ hC6.out.read HMX.out
      rw [HN.out] at hcv
      clear P2 h6
      obtain ⟨q, hq⟩ : ∃ q, quotedL l = q := ⟨_, rfl⟩
      rw [hq] at hcv
      have HQL := Lib.hid hq
      clear hq
      go_wp2_with fail
      go_ret2
      exact ⟨by rw [HQL.out]; rfl, hB6⟩

theorem quoted_any (B : Nat) (A : Option Addr) (c : Nat) (l : List UInt8) (hl : l.length ≤ 1000000) (w : World) (hA : ByAt B w A c l) :
    Calls Tryd.prog 40 #[.slice A l.length c] w fun e w' => e = .returned (.tuple #[.string ⟨(if allT l = true then quotedL l else []).toArray⟩, .bool (allT l)]) ∧ Below w.heap.size w w' := by
  cases ha : allT l with
  | true => exact quoted_yes B A c l hl w hA ha
  | false => exact quoted_no B A c l hl w hA ha
end Go.Proofs.YtpklpfncohdlhaaDoor
