/- The reference of layer 15: Flush. -/
import Derived.Test.YtfmloifgngembaaRf15S
namespace Go.Proofs.Ytfmloifgngembaa
open Go.RowKit

section
variable {A : Option Addr} {c : Nat} {l : List EvI} {w : World}
set_option maxRecDepth 100000 in
set_option maxHeartbeats 2000000 in
theorem rflush15_any (gone : Bool) (hl : l.length ≤ 100000) (hS : SlAt encEv 3 w A l) :
    Calls Try.prog 15 #[.slice A l.length c, .bool gone] w fun e w' => ∃ v1 v2, e = .returned (.tuple #[v1, v2]) ∧ w'.ownsRow w.heap.size 39 3 v1 (sqE (toldE gone l)).length (flatL encEv (sqE (toldE gone l))) ∧
      w'.ownsRow w.heap.size 39 3 v2 (restE gone l).length (flatL encEv (restE gone l)) ∧ Below w.heap.size w w' := by
  obtain ⟨i0, hi, hz0, hz1, hz2⟩ := info_parts infoEv
  have HS := Lib.hid hS
  clear hS
  go_enter Try.func15, Try.ntmps15
  go_wp2_with fail
  go_loopw [6, 7, 8] (fun v1 v2 i wr => ∃ k : Nat, k ≤ l.length ∧ i = .int .i64 k ∧ ∃ (A1 A2 : Option Addr) (c1 c2 : Nat), v1 = .slice A1 (toldE gone (l.take k)).length c1 ∧ v2 = .slice A2 (restE gone (l.take k)).length c2 ∧
    Hid (wr.ownsRow w.heap.size 39 3 (.slice A1 (toldE gone (l.take k)).length c1) (toldE gone (l.take k)).length (flatL encEv (toldE gone (l.take k)))) ∧ Hid (wr.ownsRow w.heap.size 39 3 (.slice A2 (restE gone (l.take k)).length c2) (restE gone (l.take k)).length (flatL encEv (restE gone (l.take k)))) ∧ Hid (Apart A1 A2) ∧ Hid (Below w.heap.size w wr)) (fun _ _ i _ => l.length - (intOf i).toNat)
  case atStart => exact ⟨0, Nat.zero_le _, rfl, none, none, 0, 0, rfl, rfl, Lib.hid (World.ownsRow_nil _ _ _ _), Lib.hid (World.ownsRow_nil _ _ _ _), Lib.hid (Apart.none_left _), Lib.hid (Below.refl _ _)⟩
  case round =>
    obtain ⟨k, hk, rfl, A1, A2, c1, c2, rfl, rfl, h1, h2, hap, hB⟩ := hrel
    have hk0 : (0 : Int) ≤ (k : Int) := by omega
    by_cases hlt : k < l.length
    · obtain ⟨b, off, rfl, hb, hx, hx1, hx2⟩ := (HS.out.below hB.out).ev hlt
      have hk1 : (k : Int) < (l.length : Int) := by omega
      have HT := Lib.hid (filt_take (fun e : EvI => gone || decide (e.k ≠ 2)) hlt)
      have HR := Lib.hid (filt_take (fun e : EvI => !(gone || decide (e.k ≠ 2))) hlt)
      have hl1 : (toldE gone (l.take k)).length ≤ 100000 := Nat.le_trans (toldE_len _ _) (Nat.le_trans (List.length_take_le _ _) (by omega))
      have hl2 : (restE gone (l.take k)).length ≤ 100000 := Nat.le_trans (restE_len _ _) (Nat.le_trans (List.length_take_le _ _) (by omega))
      have hBs := hB.out.size
      have HAL := Lib.hid (below_al wr (.cells #[.int .i64 l[k].k, .int .u32 (l[k].u : Int), .int .u8 (l[k].f : Int)] 39))
      have key : ∀ (p : Bool), p = (gone || decide (l[k].k ≠ 2)) → (p = true → toldE gone (l.take (k + 1)) = toldE gone (l.take k) ++ [l[k]] ∧ restE gone (l.take (k + 1)) = restE gone (l.take k)) ∧ (p = false → toldE gone (l.take (k + 1)) = toldE gone (l.take k) ∧ restE gone (l.take (k + 1)) = restE gone (l.take k) ++ [l[k]]) := by
        intro p hp
        unfold toldE restE
        rw [HT.out, HR.out, ← hp]
        cases p <;> simp
      have KY := Lib.hid key
      clear key HT HR
      generalize l[k] = m at *
      generalize toldE gone (l.take k) = Q1 at *
      generalize restE gone (l.take k) = Q2 at *
      by_cases hp : (gone || decide (m.k ≠ 2)) = true
      · obtain ⟨ht, hr⟩ := (KY.out true hp.symm).1 rfl
        have HT := Lib.hid ht
        have HR := Lib.hid hr
        clear ht hr KY
        have HRW := Lib.hid (h1.out.alloc (.cells #[.int .i64 m.k, .int .u32 (m.u : Int), .int .u8 (m.f : Int)] 39))
        have HSE := Lib.hid (slAt_ev (W := wr.alloc (.cells #[.int .i64 m.k, .int .u32 (m.u : Int), .int .u8 (m.f : Int)] 39)) m (heap_alloc_new _ _))
        have h63 : Q1.length + [m].length ≤ maxLen := by simp only [List.length_singleton, maxLen]; omega
        have h64 : (Q1.length + [m].length) * 16 ≤ 140737488355328 := by simp only [List.length_singleton]; omega
        have hba : w.heap.size ≤ (wr.alloc (.cells #[.int .i64 m.k, .int .u32 (m.u : Int), .int .u8 (m.f : Int)] 39)).heap.size := by simp; omega
        cases gone with
        | true =>
          clear hp
          go_wp2_with (at_builtin; refine wpList_append_slg _ rfl _ _ 28 rfl w.heap.size 39 i0 _ 16 Try.underlying28 hi hz0 hz1 hz2 rfl (by decide) _ Q1.length _ rfl HRW.out ⟨wr.heap.size, 0, none⟩ [m] 1 1 rfl rfl encEv_len HSE.out (one_flatEv _) h63 h64 hba ?_; intro v' wz hown' hgrow hfr; obtain ⟨A3, c3, rfl⟩ := own_any hown'; have HAP := Lib.hid (apart_step _ h2.out hap.out hgrow hfr); have HB2 := Lib.hid ((hB.out.alloc hBs (.cells #[.int .i64 m.k, .int .u32 (m.u : Int), .int .u8 (m.f : Int)] 39)).grown hgrow hba (fun k hk => (h1.out.lt k hk).1)); have HO2 := Lib.hid hown'; clear hown' hgrow hfr)
          go_roundw
          case rel => exact ⟨k + 1, by omega, by go_num, A3, A2, c3, c2, by rw [HT.out, List.length_append]; rfl, by rw [HR.out], by rw [HT.out, List.length_append, flatL_append]; exact HO2, by rw [HR.out]; exact Lib.hid HAP.out.1, Lib.hid HAP.out.2, HB2⟩
          case measure => simp [intOf]; omega
        | false =>
          have hm2 : ¬ m.k = 2 := by simpa using hp
          have hne : (m.k == 2) = false := beq_eq_false_iff_ne.2 hm2
          clear hp
          go_wp2_with (at_builtin; refine wpList_append_slg _ rfl _ _ 28 rfl w.heap.size 39 i0 _ 16 Try.underlying28 hi hz0 hz1 hz2 rfl (by decide) _ Q1.length _ rfl HRW.out ⟨wr.heap.size, 0, none⟩ [m] 1 1 rfl rfl encEv_len HSE.out (one_flatEv _) h63 h64 hba ?_; intro v' wz hown' hgrow hfr; obtain ⟨A3, c3, rfl⟩ := own_any hown'; have HAP := Lib.hid (apart_step _ h2.out hap.out hgrow hfr); have HB2 := Lib.hid ((hB.out.alloc hBs (.cells #[.int .i64 m.k, .int .u32 (m.u : Int), .int .u8 (m.f : Int)] 39)).grown hgrow hba (fun k hk => (h1.out.lt k hk).1)); have HO2 := Lib.hid hown'; clear hown' hgrow hfr)
          go_roundw
          case rel => exact ⟨k + 1, by omega, by go_num, A3, A2, c3, c2, by rw [HT.out, List.length_append]; rfl, by rw [HR.out], by rw [HT.out, List.length_append, flatL_append]; exact HO2, by rw [HR.out]; exact Lib.hid HAP.out.1, Lib.hid HAP.out.2, HB2⟩
          case measure => simp [intOf]; omega
      · have hp' : (gone || decide (m.k ≠ 2)) = false := by simpa using hp
        obtain ⟨ht, hr⟩ := (KY.out false hp'.symm).2 rfl
        have HT := Lib.hid ht
        have HR := Lib.hid hr
        have hg : gone = false := by cases gone <;> simp_all
        have hm2 : m.k = 2 := by cases gone <;> simp_all
        subst hg
        have heq : (m.k == 2) = true := beq_iff_eq.2 hm2
        clear ht hr KY hp hp' hm2
        have HRW := Lib.hid (h2.out.alloc (.cells #[.int .i64 m.k, .int .u32 (m.u : Int), .int .u8 (m.f : Int)] 39))
        have HSE := Lib.hid (slAt_ev (W := wr.alloc (.cells #[.int .i64 m.k, .int .u32 (m.u : Int), .int .u8 (m.f : Int)] 39)) m (heap_alloc_new _ _))
        have h63 : Q2.length + [m].length ≤ maxLen := by simp only [List.length_singleton, maxLen]; omega
        have h64 : (Q2.length + [m].length) * 16 ≤ 140737488355328 := by simp only [List.length_singleton]; omega
        have hba : w.heap.size ≤ (wr.alloc (.cells #[.int .i64 m.k, .int .u32 (m.u : Int), .int .u8 (m.f : Int)] 39)).heap.size := by simp; omega
        go_wp2_with (at_builtin; refine wpList_append_slg _ rfl _ _ 28 rfl w.heap.size 39 i0 _ 16 Try.underlying28 hi hz0 hz1 hz2 rfl (by decide) _ Q2.length _ rfl HRW.out ⟨wr.heap.size, 0, none⟩ [m] 1 1 rfl rfl encEv_len HSE.out (one_flatEv _) h63 h64 hba ?_; intro v' wz hown' hgrow hfr; obtain ⟨A3, c3, rfl⟩ := own_any hown'; have HAP := Lib.hid (apart_step _ h1.out hap.out.symm hgrow hfr); have HB2 := Lib.hid ((hB.out.alloc hBs (.cells #[.int .i64 m.k, .int .u32 (m.u : Int), .int .u8 (m.f : Int)] 39)).grown hgrow hba (fun k hk => (h2.out.lt k hk).1)); have HO2 := Lib.hid hown'; clear hown' hgrow hfr)
        go_roundw
        case rel => exact ⟨k + 1, by omega, by go_num, A1, A3, c1, c3, by rw [HT.out], by rw [HR.out, List.length_append]; rfl, by rw [HT.out]; exact Lib.hid HAP.out.1, by rw [HR.out, List.length_append, flatL_append]; exact HO2, Lib.hid HAP.out.2.symm, HB2⟩
        case measure => simp [intOf]; omega
    · obtain rfl : k = l.length := by omega
      rw [List.take_length] at *
      have hq := toldE_len gone l
      have SQ := Lib.hid (rsqueeze15_any (c := c1) (w := wr) (by omega) (SlAt.of_own encEv_len h1.out))
      clear h1 hap HS hlt hk hq
      generalize hq1 : toldE gone l = Q1 at *
      generalize hq2 : restE gone l = Q2 at *
      have HQ1 := Lib.hid hq1
      have HQ2 := Lib.hid hq2
      clear hq1 hq2
      go_wp2_with fail
      refine SQ.out.mono ?_
      rintro e w2 ⟨v, rfl, k1, k2⟩
      have K1 := Lib.hid (own_mono k1 hB.out.size)
      have K2 := Lib.hid (own_below h2.out k2)
      have K3 := Lib.hid (below_next hB.out k2)
      clear k1 k2 SQ h2
      go_wp2_with fail
      go_ret2
      rw [HQ1.out, HQ2.out]
      exact ⟨_, _, rfl, K1.out, K2.out, K3.out⟩
end
end Go.Proofs.Ytfmloifgngembaa
