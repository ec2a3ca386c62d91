/- quote: the cursor's digits. -/
import Derived.Test.YtpklpfncohdlhaaDoorCur
import Derived.Test.YtpklpfncohdlhaaDoorNumMath
namespace Go.Proofs.YtpklpfncohdlhaaDoor
open Go.RowKit

theorem takeWhile_at {p : UInt8 → Bool} (r : List UInt8) (j : Nat) (hj : j ≤ r.length) (ha : (r.take j).all p = true) (hend : ∀ h : j < r.length, p r[j] = false) : r.takeWhile p = r.take j := by
  induction r generalizing j with
  | nil => simp
  | cons x r ih =>
    cases j with
    | zero =>
      have := hend (by simp)
      simp only [List.getElem_cons_zero] at this
      simp [this]
    | succ j =>
      rw [List.take_succ_cons, List.all_cons, Bool.and_eq_true] at ha
      rw [List.takeWhile_cons, if_pos ha.1, List.take_succ_cons, ih j (by simpa using hj) ha.2 (fun h => by have := hend (by simpa using h); rwa [List.getElem_cons_succ] at this)]
theorem dig_all_snoc (r : List UInt8) (j : Nat) (h : j < r.length) (ha : (r.take j).all isDig = true) (hd : isDig r[j] = true) : (r.take (j + 1)).all isDig = true := by
  rw [List.take_succ_eq_append_getElem h, List.all_append, ha]
  simp [hd]

/-- The digits at the front. -/
def dgL (r : List UInt8) : List UInt8 := r.takeWhile isDig
theorem dgL_le (r : List UInt8) : (dgL r).length ≤ r.length := List.takeWhile_sublist _ |>.length_le

set_option maxRecDepth 100000 in
set_option maxHeartbeats 2000000 in
theorem digits_any (bs c : Nat) (A : Option Addr) (l : List UInt8) (k : Nat) (hk : k ≤ l.length) (hl : l.length ≤ 1000000000) (w : World) (h : Cur bs A c l (k : Int) w) :
    Calls Tryd.prog 75 #[.pointer (some ⟨bs, 0, none⟩)] w fun e w' => e = .returned (.string ⟨(dgL (l.drop k)).toArray⟩) ∧ Hid (Cur bs A c l ((k : Int) + ((dgL (l.drop k)).length : Int)) w') ∧ Below bs w w' := by
  have R := Lib.hid (rest_in bs c A l k hk hl w h)
  have HH := Lib.hid h
  have hbs := h.lt
  have hle := h.lies.le
  have hse := fun x lo hi mx W => sliceAt_eq x lo hi mx W
  have HL := Lib.hid (show (l.drop k).length = l.length - k by rw [List.length_drop])
  have hR0 := h.lies.drop (lo := k) hk
  have HR0 := Lib.hid hR0
  clear h hR0
  obtain ⟨q, hq⟩ : ∃ q, dgL (l.drop k) = q := ⟨_, rfl⟩
  rw [hq]
  have HQ := Lib.hid hq
  clear hq
  obtain ⟨r, hr⟩ : ∃ r, l.drop k = r := ⟨_, rfl⟩
  rw [hr] at HL HR0 HQ
  clear hr
  go_enter Tryd.func75, Tryd.ntmps75
  go_wp2_with fail
  refine R.out.mono ?_
  rintro e w1 ⟨rfl, hb⟩
  have H1 := Lib.hid (HH.out.grow hb)
  have HR1 := Lib.hid (HR0.out.grow hb)
  have c1 := H1.out.c1
  have f1 := Joins.unfrozen_of_block H1.out.blk 1
  have HB := Lib.hid (hb.mono (Nat.le_of_lt hbs))
  obtain ⟨m, hm⟩ : ∃ m, l.length - k = m := ⟨_, rfl⟩
  rw [hm] at HL
  rw [hm]
  have hm1 : m ≤ 1000000000 := by omega
  have hm2 : m ≤ c - k := by omega
  have hm3 : k + m ≤ l.length := by omega
  clear hm hb HH R HR0
  go_wp2_with fail
  go_loop [4] (fun i => ∃ j : Nat, j ≤ m ∧ i = .int .i64 (j : Int) ∧ Hid ((r.take j).all isDig = true)) (fun i => m - (intOf i).toNat)
  case atStart => exact ⟨0, Nat.zero_le _, rfl, rfl⟩
  case round =>
    obtain ⟨j, hj, rfl, hD⟩ := hrel
    have stop : ∀ (_ : ∀ h : j < r.length, isDig r[j] = false), q = r.take j := fun hend => by
      rw [← HQ.out]; exact takeWhile_at r j (by rw [HL.out]; exact hj) hD.out hend
    have stop := Lib.hid stop
    have done : q = r.take j → Hid (q.length = j) ∧ Hid ((convert 22 9 (.slice (offA A c k) j (c - k))).run Tryd.prog (w1.setCell ⟨bs, 1, none⟩ (.int .i64 ((k : Int) + (j : Int)))) = .ok (.string ⟨q.toArray⟩) (w1.setCell ⟨bs, 1, none⟩ (.int .i64 ((k : Int) + (j : Int))))) ∧ Hid (Cur bs A c l ((k : Int) + (q.length : Int)) (w1.setCell ⟨bs, 1, none⟩ (.int .i64 ((k : Int) + (j : Int))))) ∧ Hid (Below bs w (w1.setCell ⟨bs, 1, none⟩ (.int .i64 ((k : Int) + (j : Int))))) := fun hqe => by
      have hql : q.length = j := by rw [hqe, List.length_take, HL.out]; omega
      have hcur := H1.out.set ((k : Int) + (j : Int))
      refine ⟨hql, ?_, ?_, HB.out.setCell (p := ⟨bs, 1, none⟩) (Nat.le_refl _) _⟩
      · have hT := (HR1.out.take (hi := j) (by rw [HL.out]; exact hj)).below ((Below.refl bs w1).setCell (p := ⟨bs, 1, none⟩) (Nat.le_refl _) (.int .i64 ((k : Int) + (j : Int))))
        rw [← hqe] at hT
        exact convS bs _ _ (c - k) j q hT hql
      · rw [hql]; exact hcur
    have done := Lib.hid done
    have hsl := fun W => slice_h (offA A c k) m (c - k) j (by omega) W
    by_cases hlt : j < m
    · have hlr : j < r.length := by rw [HL.out]; exact hlt
      obtain ⟨b, off, he, _, _, hc⟩ := HR1.out.cell hlr
      have hn : r[j].toNat ≤ 255 := by have := r[j].toNat_lt; omega
      by_cases h1 : 48 ≤ r[j].toNat
      · by_cases h2 : r[j].toNat ≤ 57
        · have HN := Lib.hid (dig_all_snoc r j hlr hD.out (by unfold isDig; simp [h1, h2]))
          have HE := Lib.hid he
          rw [he]
          clear he stop done
          generalize r[j].toNat = x at *
          go_wp2_with fail
          go_round
          case rel => exact ⟨j + 1, by omega, by go_num, HN.out⟩
          case measure => simp [intOf]; omega
        · have S := done.out (stop.out (fun _ => by unfold isDig; simp [h2]))
          obtain ⟨hq1, hcv, hcu, hbb⟩ := S
          have hcv := hcv.out
          have HE := Lib.hid he
          clear stop done
          rw [he] at hcv hsl
          rw [he]
          clear he
          generalize r[j].toNat = x at *
          go_wp2_with fail
          go_ret
          exact ⟨rfl, hcu, hbb.out⟩
      · have S := done.out (stop.out (fun _ => by unfold isDig; simp; omega))
        obtain ⟨hq1, hcv, hcu, hbb⟩ := S
        have hcv := hcv.out
        have HE := Lib.hid he
        clear stop done
        rw [he] at hcv hsl
        rw [he]
        clear he
        generalize r[j].toNat = x at *
        go_wp2_with fail
        go_ret
        exact ⟨rfl, hcu, hbb.out⟩
    · obtain rfl : j = m := by omega
      have S := done.out (stop.out (fun h => by rw [HL.out] at h; omega))
      obtain ⟨hq1, hcv, hcu, hbb⟩ := S
      have hcv := hcv.out
      clear stop done
      go_wp2_with fail
      go_ret
      exact ⟨rfl, hcu, hbb.out⟩
end Go.Proofs.YtpklpfncohdlhaaDoor
