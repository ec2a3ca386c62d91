/- Law 10: ReplyCounts. -/
import Derived.Test.YtpoejnajnaolpaaGreatDoorRpAlive
namespace Go.Proofs.YtpoejnajnaolpaaGreatDoor
open Go.RowKit

/-- How many responses there are of a kind; of the kinds from 1 up to one. -/
def cntK (k : Int) (xs : List RX) : Nat := xs.countP fun x => x.r.kind == k
def cntV (m : Nat) (xs : List RX) : Nat := xs.countP fun x => decide (1 ≤ x.r.kind) && decide (x.r.kind ≤ (m : Int))
theorem cntV_zero (xs : List RX) : cntV 0 xs = 0 := by
  unfold cntV
  rw [List.countP_eq_zero]
  intro x _
  simp
  omega
theorem cntV_succ (m : Nat) (xs : List RX) : cntV (m + 1) xs = cntV m xs + cntK ((m + 1 : Nat) : Int) xs := by
  induction xs with
  | nil => rfl
  | cons x xs ih =>
    unfold cntV cntK at ih ⊢
    simp only [List.countP_cons]
    rw [ih]
    by_cases h1 : 1 ≤ x.r.kind
    · by_cases h2 : x.r.kind ≤ (m : Int)
      · have e1 : decide (x.r.kind ≤ (m : Int)) = true := by simpa using h2
        have e2 : decide (x.r.kind ≤ ((m + 1 : Nat) : Int)) = true := by simp only [decide_eq_true_eq]; omega
        have e3 : (x.r.kind == ((m + 1 : Nat) : Int)) = false := by rw [beq_eq_false_iff_ne]; omega
        have e4 : decide (1 ≤ x.r.kind) = true := by simpa using h1
        rw [e1, e2, e3, e4]
        simp
        omega
      · by_cases h4 : x.r.kind = ((m + 1 : Nat) : Int)
        · have h3 : x.r.kind ≤ ((m + 1 : Nat) : Int) := by omega
          have e1 : decide (x.r.kind ≤ (m : Int)) = false := by simp; omega
          have e2 : decide (x.r.kind ≤ ((m + 1 : Nat) : Int)) = true := by simp only [decide_eq_true_eq]; exact h3
          have e3 : (x.r.kind == ((m + 1 : Nat) : Int)) = true := by rw [beq_iff_eq]; exact h4
          have e4 : decide (1 ≤ x.r.kind) = true := by simpa using h1
          rw [e1, e2, e3, e4]
          simp
          omega
        · have e1 : decide (x.r.kind ≤ (m : Int)) = false := by simp; omega
          have e2 : decide (x.r.kind ≤ ((m + 1 : Nat) : Int)) = false := by simp only [decide_eq_false_iff_not]; omega
          have e3 : (x.r.kind == ((m + 1 : Nat) : Int)) = false := by rw [beq_eq_false_iff_ne]; exact h4
          rw [e1, e2, e3]
          simp
    · have e4 : decide (1 ≤ x.r.kind) = false := by simpa using h1
      have e3 : (x.r.kind == ((m + 1 : Nat) : Int)) = false := by rw [beq_eq_false_iff_ne]; omega
      rw [e4, e3]
      simp
theorem cnt_le (p : RX → Bool) (xs : List RX) : xs.countP p ≤ xs.length := List.countP_le_length
theorem cnt_snoc (p : RX → Bool) {xs : List RX} {k : Nat} (h : k < xs.length) : (xs.take (k + 1)).countP p = (xs.take k).countP p + (if p xs[k] = true then 1 else 0) := by
  rw [List.take_succ_eq_append_getElem h, List.countP_append, List.countP_cons, List.countP_nil, Nat.zero_add]

set_option maxRecDepth 100000 in
set_option maxHeartbeats 2000000 in
theorem count_any (kd : Int) (xs : List RX) (A : Option Addr) (c n : Nat) (hn : xs.length = n) (hl : n ≤ 60) (w : World) (hS : RsAt w A xs) :
    Calls Tryz.prog 24 #[.int .i64 kd, .slice A n c] w fun e w' => e = .returned (.int .i64 ((cntK kd xs : Nat) : Int)) ∧ Below w.heap.size w w' := by
  have HS := Lib.hid hS
  have HN := Lib.hid hn
  clear hS hn
  go_enter Tryz.func24, Tryz.ntmps24
  go_wp2_with fail
  go_loopw [5, 10] (fun v i wr => ∃ k m : Nat, k ≤ n ∧ m ≤ k ∧ i = .int .i64 (k : Int) ∧ v = .int .i64 (m : Int) ∧ Hid (m = cntK kd (xs.take k)) ∧ Hid (Below w.heap.size w wr)) (fun _ i _ => n - (intOf i).toNat)
  case atStart => exact ⟨0, 0, Nat.zero_le _, Nat.le_refl _, rfl, rfl, Lib.hid rfl, Lib.hid (Below.refl _ _)⟩
  case round =>
    obtain ⟨k, m, hk, hmk, rfl, rfl, hM, hB⟩ := hrel
    by_cases hlt : k < n
    · have hlx : k < xs.length := by rw [HN.out]; exact hlt
      obtain ⟨b, off, rfl, -, c0, c1, c2, c3, c4, c5, c6, c7, c8, c9⟩ := (HS.out.below hB.out).at hlx
      have hk0 : (0 : Int) ≤ (k : Int) := by omega
      have hk1 : (k : Int) < (n : Int) := by omega
      have HBX := Lib.hid (below_next hB.out (below_al wr (.cells (encRx xs[k]).toArray 27)))
      have HST := Lib.hid (show cntK kd (xs.take (k + 1)) = m + (if (xs[k].r.kind == kd) = true then 1 else 0) by rw [hM.out]; exact cnt_snoc _ hlx)
      unfold encRx at HBX
      generalize ByteArray.mk xs[k].r.tag.toArray = v2 at *
      generalize ByteArray.mk xs[k].r.text.toArray = v4 at *
      generalize xs[k].r.kind = v0 at *
      generalize (xs[k].r.n : Int) = v1 at *
      generalize xs[k].r.status = v3 at *
      generalize xs[k].r.items = v5 at *
      generalize (xs[k].r.flags : Int) = v6 at *
      generalize (xs[k].r.uid : Int) = v7 at *
      generalize (xs[k].r.size : Int) = v8 at *
      generalize xs[k].r.body.length = v9 at *
      generalize xs[k].A = v10 at *
      generalize xs[k].k = v11 at *
      cases hq : (v0 == kd) with
      | true =>
        have HM2 := Lib.hid (show m + 1 = cntK kd (xs.take (k + 1)) by rw [HST.out, hq, if_pos rfl])
        clear HST hM
        go_wp2_with fail
        go_roundw
        case rel => exact ⟨k + 1, m + 1, by omega, by omega, by go_num, by go_num, HM2, HBX⟩
        case measure => simp [intOf]; omega
      | false =>
        have HM2 := Lib.hid (show m = cntK kd (xs.take (k + 1)) by rw [HST.out, hq, if_neg (by decide), Nat.add_zero])
        clear HST hM
        go_wp2_with fail
        go_roundw
        case rel => exact ⟨k + 1, m, by omega, by omega, by go_num, rfl, HM2, HBX⟩
        case measure => simp [intOf]; omega
    · obtain rfl : k = n := by omega
      have HM2 := Lib.hid (show m = cntK kd xs by have := hM.out; rwa [List.take_of_length_le (by rw [HN.out]; exact Nat.le_refl _)] at this)
      clear hM
      go_wp2_with fail
      go_ret
      exact ⟨ret_int (by rw [HM2.out]), hB.out⟩

set_option maxRecDepth 100000 in
set_option maxHeartbeats 4000000 in
theorem replyCounts_any (A : Option Addr) (c : Nat) (xs : List RX) (_hc : xs.length ≤ c) (hl : xs.length ≤ maxLen) (_hok : ∀ x ∈ xs, RIok x.r) (w : World) (henv : Env w) (hS : RsAt w A xs) :
    Calls Tryz.prog 8 #[.slice A xs.length c] w fun e w' => e = .returned (.bool true) ∧ Below w.heap.size w w' := by
  have FW := Lib.hid (rfew9_any xs A c xs.length rfl hl w hS)
  have AL := Lib.hid (fun W (h : Below w.heap.size w W) => alive10_any W (henv.below h))
  cases hf : fewRs xs with
  | false =>
    rw [hf] at FW
    have AL := Lib.hid (AL.out w (Below.refl _ _))
    clear hS henv hf
    generalize xs.length = n at *
    go_enter Tryz.func8, Tryz.ntmps8
    go_wp2_with fail
    refine FW.out.mono ?_
    rintro e w1 ⟨rfl, rfl⟩
    go_wp2_with fail
    refine AL.out.mono ?_
    rintro e w2 ⟨rfl, hb⟩
    go_wp2_with fail
    go_ret
    exact ⟨rfl, hb⟩
  | true =>
    rw [hf] at FW
    have h60 : xs.length ≤ 60 := by
      unfold fewRs at hf
      rw [Bool.and_eq_true, decide_eq_true_eq] at hf
      exact hf.2
    have HS := Lib.hid hS
    obtain ⟨n, hn⟩ : ∃ n, xs.length = n := ⟨_, rfl⟩
    have HN := Lib.hid hn
    have CT := Lib.hid (fun (k : Nat) W (h : Below w.heap.size w W) => count_any (k : Int) xs A c n hn (by omega) W (hS.below h))
    have HCL := Lib.hid (fun (k : Nat) => show cntK (k : Int) xs ≤ 60 from Nat.le_trans (cnt_le _ xs) h60)
    have HCV := Lib.hid (fun (k : Nat) => show cntV k xs ≤ 60 from Nat.le_trans (cnt_le _ xs) h60)
    rw [hn] at FW ⊢ h60
    clear hS henv hf hl hn
    go_enter Tryz.func8, Tryz.ntmps8
    go_wp2_with fail
    refine FW.out.mono ?_
    rintro e w1 ⟨rfl, rfl⟩
    go_wp2_with fail
    go_loopw [3, 5] (fun v i wr => ∃ k m : Nat, k ≤ 10 ∧ m ≤ 60 ∧ i = .int .i64 ((k + 1 : Nat) : Int) ∧ v = .int .i64 (m : Int) ∧ Hid (m = cntV k xs) ∧ Hid (Below w.heap.size w wr)) (fun _ i _ => 12 - (intOf i).toNat)
    case atStart => exact ⟨0, 0, by omega, by omega, rfl, rfl, Lib.hid (cntV_zero xs).symm, Lib.hid (Below.refl _ _)⟩
    case round =>
      obtain ⟨k, m, hk, hm, rfl, rfl, hM, hB⟩ := hrel
      by_cases hlt : k < 10
      · have C := Lib.hid (CT.out (k + 1) wr hB.out)
        have HL := Lib.hid (HCL.out (k + 1))
        have HST := Lib.hid (show m + cntK ((k + 1 : Nat) : Int) xs = cntV (k + 1) xs by rw [cntV_succ, hM.out])
        have HV := Lib.hid (HCV.out (k + 1))
        obtain ⟨y, hy⟩ : ∃ y, cntK ((k + 1 : Nat) : Int) xs = y := ⟨_, rfl⟩
        rw [hy] at C HL HST
        have hyl : y ≤ 60 := HL.out
        have hmy : m + y ≤ 60 := by rw [HST.out]; exact HV.out
        have d1 : decide (((k + 1 : Nat) : Int) ≤ 10) = true := by simp; omega
        clear hy
        go_wp2_with fail
        refine C.out.mono ?_
        rintro e w2 ⟨rfl, hb2⟩
        have HB2 := Lib.hid (below_next hB.out hb2)
        clear hb2 C
        go_wp2_with fail
        go_roundw
        case rel => exact ⟨k + 1, m + y, by omega, by omega, by go_num, by go_num, HST, HB2⟩
        case measure => simp [intOf]; omega
      · obtain rfl : k = 10 := by omega
        have d1 : decide (((10 + 1 : Nat) : Int) ≤ 10) = false := by decide
        clear CT HCL
        go_wp2_with fail
        go_loopw [4, 23] (fun v i wr => ∃ j q : Nat, j ≤ n ∧ q ≤ j ∧ i = .int .i64 (j : Int) ∧ v = .int .i64 (q : Int) ∧ Hid (q = cntV 10 (xs.take j)) ∧ Hid (Below w.heap.size w wr)) (fun _ i _ => n - (intOf i).toNat)
        case atStart => exact ⟨0, 0, Nat.zero_le _, Nat.le_refl _, rfl, rfl, Lib.hid rfl, hB⟩
        case round =>
          clear hB
          obtain ⟨j, q, hj, hqj, rfl, rfl, hQ, hB⟩ := hrel
          by_cases hlt : j < n
          · have hlx : j < xs.length := by rw [HN.out]; exact hlt
            obtain ⟨b, off, rfl, -, c0, c1, c2, c3, c4, c5, c6, c7, c8, c9⟩ := (HS.out.below hB.out).at hlx
            have hk0 : (0 : Int) ≤ (j : Int) := by omega
            have hk1 : (j : Int) < (n : Int) := by omega
            have HBX := Lib.hid (below_next hB.out (below_al wr (.cells (encRx xs[j]).toArray 27)))
            have HST := Lib.hid (show cntV 10 (xs.take (j + 1)) = q + (if (decide (1 ≤ xs[j].r.kind) && decide (xs[j].r.kind ≤ ((10 : Nat) : Int))) = true then 1 else 0) by rw [hQ.out]; exact cnt_snoc _ hlx)
            unfold encRx at HBX
            generalize ByteArray.mk xs[j].r.tag.toArray = v2 at *
            generalize ByteArray.mk xs[j].r.text.toArray = v4 at *
            generalize xs[j].r.kind = v0 at *
            generalize (xs[j].r.n : Int) = v1 at *
            generalize xs[j].r.status = v3 at *
            generalize xs[j].r.items = v5 at *
            generalize (xs[j].r.flags : Int) = v6 at *
            generalize (xs[j].r.uid : Int) = v7 at *
            generalize (xs[j].r.size : Int) = v8 at *
            generalize xs[j].r.body.length = v9 at *
            generalize xs[j].A = v10 at *
            generalize xs[j].k = v11 at *
            cases g1 : decide (1 ≤ v0) with
            | false =>
              have HQ2 := Lib.hid (show q = cntV 10 (xs.take (j + 1)) by rw [HST.out, g1]; rfl)
              clear HST hQ
              go_wp2_with fail
              go_roundw
              case rel => exact ⟨j + 1, q, by omega, by omega, by go_num, rfl, HQ2, HBX⟩
              case measure => simp [intOf]; omega
            | true =>
              cases g2 : decide (v0 ≤ 10) with
              | false =>
                have HQ2 := Lib.hid (show q = cntV 10 (xs.take (j + 1)) by rw [HST.out, g1, show decide (v0 ≤ ((10 : Nat) : Int)) = false from g2]; rfl)
                clear HST hQ
                go_wp2_with fail
                go_roundw
                case rel => exact ⟨j + 1, q, by omega, by omega, by go_num, rfl, HQ2, HBX⟩
                case measure => simp [intOf]; omega
              | true =>
                have HQ2 := Lib.hid (show q + 1 = cntV 10 (xs.take (j + 1)) by rw [HST.out, g1, show decide (v0 ≤ ((10 : Nat) : Int)) = true from g2]; rfl)
                clear HST hQ
                go_wp2_with fail
                go_roundw
                case rel => exact ⟨j + 1, q + 1, by omega, by omega, by go_num, by go_num, HQ2, HBX⟩
                case measure => simp [intOf]; omega
          · obtain rfl : j = n := by omega
            have HQ2 : Hid (q = m) := Lib.hid (by have := hQ.out; rw [List.take_of_length_le (by rw [HN.out]; exact Nat.le_refl _)] at this; rw [this, hM.out])
            obtain rfl := HQ2.out
            have AL := Lib.hid (AL.out wr hB.out)
            clear hQ hM
            go_wp2_with fail
            refine AL.out.mono ?_
            rintro e w2 ⟨rfl, hb2⟩
            have HB2 := Lib.hid (below_next hB.out hb2)
            clear hb2 AL
            go_wp2_with fail
            go_ret
            exact ⟨rfl, HB2.out⟩
end Go.Proofs.YtpoejnajnaolpaaGreatDoor
