/- The reference of layer 7: kinds, mailbox, words, list, mode. -/
import Derived.Test.YthfopimgdikpgaaGreatDoorRef07A
import Derived.Test.YthfopimgdikpgaaGreatDoorCmdEq
import Derived.Test.YthfopimgdikpgaaGreatDoorTkTag
import Derived.Test.YthfopimgdikpgaaGreatDoorGf
import Derived.Test.YthfopimgdikpgaaGreatDoorGu
import Derived.Test.YthfopimgdikpgaaGreatDoorPsrF
namespace Go.Proofs.YthfopimgdikpgaaGreatDoor
open Go.RowKit

/-- The letter of a token's kind: e s ( ) w q l. -/
def letN (k : Nat) : UInt8 := if k = 0 then 101 else if k = 1 then 115 else if k = 2 then 40 else if k = 3 then 41 else if k = 4 then 119 else if k = 5 then 113 else 108
def kindsL (ts : List Tok) : List UInt8 := ts.map fun t => letN t.kind
theorem letN_s {k : Nat} (h : k ≤ 6) : letN k = 115 ↔ k = 1 := by
  have h2 : k = 0 ∨ k = 1 ∨ k = 2 ∨ k = 3 ∨ k = 4 ∨ k = 5 ∨ k = 6 := by omega
  rcases h2 with rfl | rfl | rfl | rfl | rfl | rfl | rfl <;> decide
theorem cutK (k : Nat) (h : k ≤ 6) (W : World) : (Instr.slice 9 (.string ⟨#[101, 115, 40, 41, 119, 113, 108]⟩) (some (.int .i64 (k : Int))) (some (.int .i64 ((k : Int) + 1))) none).run Tryz.prog W = .ok (.string ⟨#[letN k]⟩) W := by
  have h2 : k = 0 ∨ k = 1 ∨ k = 2 ∨ k = 3 ∨ k = 4 ∨ k = 5 ∨ k = 6 := by omega
  rw [run_slice_string (P := Tryz.prog) (w := W) 9 _ .i64 .i64 _ _ Tryz.underlying9 (by omega) (by omega) (by show _ ≤ (7 : Int); omega)]
  rcases h2 with rfl | rfl | rfl | rfl | rfl | rfl | rfl <;> rfl
theorem drewN_below8 (w : World) (n : Nat) : Below w.heap.size w (w.drewN n) := ⟨rfl, rfl, rfl, Nat.le_refl _, fun _ _ => rfl⟩

theorem str_snoc7 (l : List UInt8) (c : UInt8) : (ByteArray.mk l.toArray ++ ByteArray.mk #[c]) = ⟨(l ++ [c]).toArray⟩ := by
  apply ByteArray.ext
  simp [ByteArray.data_append]

set_option maxRecDepth 100000 in
set_option maxHeartbeats 1000000 in
theorem kinds_any (A : Option Addr) (c : Nat) (ts : List Tok) (hl : ts.length ≤ 10000) (hk6 : ∀ t ∈ ts, t.kind ≤ 6) (w : World) (hS : SlAt encT 3 w A ts) :
    Calls Tryz.prog 47 #[.slice A ts.length c] w fun e w' => e = .returned (.string ⟨(kindsL ts).toArray⟩) ∧ Below w.heap.size w w' := by
  have HS := Lib.hid hS
  have HK := Lib.hid hk6
  clear hS hk6
  go_enter Tryz.func47, Tryz.ntmps47
  go_wp2_with fail
  go_loopw [3, 4] (fun s i wr => ∃ k : Nat, k ≤ ts.length ∧ i = .int .i64 (k : Int) ∧ s = .string ⟨(kindsL (ts.take k)).toArray⟩ ∧ Hid (Below w.heap.size w wr)) (fun _ i _ => ts.length - (intOf i).toNat)
  case atStart => exact ⟨0, Nat.zero_le _, rfl, rfl, Lib.hid (Below.refl _ _)⟩
  case round =>
    obtain ⟨k, hk, rfl, rfl, hB⟩ := hrel
    by_cases hlt : k < ts.length
    · obtain ⟨b, off, rfl, _, hc0, _, _⟩ := tk_at (HS.out.below hB.out) hlt
      have hkd := HK.out _ (List.getElem_mem hlt)
      have htk : kindsL (ts.take (k + 1)) = kindsL (ts.take k) ++ [letN ts[k].kind] := by
        unfold kindsL
        rw [List.take_succ_eq_append_getElem hlt, List.map_append]; rfl
      have HT := Lib.hid htk
      have hlen : (kindsL (ts.take k)).length ≤ 10000 := by simp [kindsL]; omega
      have cu := fun W => cutK ts[k].kind hkd W
      clear htk
      generalize ts[k].kind = kd at *
      generalize kindsL (ts.take k) = acc at *
      have hk0 : (0 : Int) ≤ (k : Int) := by omega
      have hk1 : (k : Int) < (ts.length : Int) := by omega
      have hw1 : IntKind.i64.wrap ((kd : Int) + 1) = (kd : Int) + 1 := by
        simp only [IntKind.wrap, IntKind.bits, IntKind.signed, Bool.true_and, Int.reducePow, Nat.reduceSub, ge_iff_le, decide_eq_true_eq]
        split <;> omega
      go_wp2_with fail
      go_quiet (fail)
      go_wp2_with fail
      go_roundw
      case rel => exact ⟨k + 1, by omega, by go_num, by rw [HT.out, ← str_snoc7], Lib.hid (below_next hB.out (drewN_below8 _ _))⟩
      case measure => simp [intOf]; omega
    · obtain rfl : k = ts.length := by omega
      go_wp2_with fail
      go_ret
      exact ⟨by rw [List.take_length]; rfl, hB.out⟩

set_option maxRecDepth 100000 in
set_option maxHeartbeats 2000000 in
theorem rmailbox_any (t : Tok) (hl : t.text.length ≤ 1000000) (w : World) :
    Calls Tryz.prog 48 #[.agg #[.int .i64 (t.kind : Int), .string ⟨t.text.toArray⟩, .int .i64 (t.at_ : Int)]] w fun e w' => e = .returned (.bool (mboxR t)) ∧ Below w.heap.size w w' := by
  unfold mboxR
  have HB := Lib.hid (below_al w (.cells #[.int .i64 (t.kind : Int), .string ⟨t.text.toArray⟩, .int .i64 (t.at_ : Int)] 43))
  by_cases h4 : t.kind = 4
  · rw [if_pos h4]
    have e4 : ((t.kind : Int) != 4) = false := by rw [h4]; rfl
    have AT := Lib.hid (fun n W h b hb => refAtom_is n W h b hb)
    unfold mbB
    generalize t.kind = kd at *
    generalize t.at_ = at_ at *
    generalize t.text = x at *
    obtain ⟨q, hq⟩ : ∃ q, (x.all fun c => mbN c.toNat) = q := ⟨_, rfl⟩
    rw [hq]
    have HQ := Lib.hid hq
    have hx0 := heap_alloc_new w (.cells #[.int .i64 (kd : Int), .string ⟨x.toArray⟩, .int .i64 (at_ : Int)] 43)
    have c1 := cell_of_row _ _ 1 _ _ _ hx0
    clear hq hx0 h4
    go_enter Tryz.func48, Tryz.ntmps48
    go_wp2_with fail
    go_loop [3] (fun i => ∃ k : Nat, k ≤ x.length ∧ i = .int .i64 (k : Int) ∧ Hid (((x.take k).all fun c => mbN c.toNat) = true)) (fun i => x.length - (intOf i).toNat)
    case atStart => exact ⟨0, Nat.zero_le _, rfl, Lib.hid (by simp)⟩
    case round =>
      obtain ⟨k, hk, rfl, hA⟩ := hrel
      by_cases hlt : k < x.length
      · have hlt2 : k < (ByteArray.mk x.toArray).size := by show k < x.toArray.size; simpa using hlt
        have hn : x[k].toNat ≤ 255 := by have := x[k].toNat_lt; omega
        have hst : ((x.take (k + 1)).all fun c => mbN c.toNat) = mbN x[k].toNat := by
          rw [List.take_succ_eq_append_getElem hlt, List.all_append, hA.out]; simp
        have HBAD : Hid (mbN x[k].toNat = false → q = false) := Lib.hid (fun h => by
          rw [← HQ.out, List.all_eq_false]
          exact ⟨x[k], List.getElem_mem hlt, by simp [h]⟩)
        have HST := Lib.hid hst
        have hbx : (ByteArray.mk x.toArray)[k] = x[k] := by simp [ByteArray.getElem_eq_getElem_data]
        have A1 := fun W => AT.out x[k].toNat W hn
        clear hst hA
        generalize x[k] = y at *
        cases ha : atomN y.toNat with
        | true =>
          have A2 := Lib.hid (fun W => A1 W true ha)
          have HMT : Hid (mbN y.toNat = true) := Lib.hid (by unfold mbN; rw [ha]; rfl)
          clear HBAD
          go_wp2_with fail
          refine (A2.out _).mono ?_
          rintro e w1 ⟨rfl, rfl⟩
          go_wp2_with fail
          go_round
          case rel => exact ⟨k + 1, by omega, by go_num, Lib.hid (by rw [HST.out]; exact HMT.out)⟩
          case measure => simp [intOf]; omega
        | false =>
          have A2 := Lib.hid (fun W => A1 W false ha)
          by_cases h93 : y.toNat = 93
          · have f1 : ((y.toNat : Int) != 93) = false := by rw [h93]; rfl
            have HMT : Hid (mbN y.toNat = true) := Lib.hid (by unfold mbN; rw [h93]; simp)
            clear HBAD h93
            go_wp2_with fail
            refine (A2.out _).mono ?_
            rintro e w1 ⟨rfl, rfl⟩
            go_wp2_with fail
            go_round
            case rel => exact ⟨k + 1, by omega, by go_num, Lib.hid (by rw [HST.out]; exact HMT.out)⟩
            case measure => simp [intOf]; omega
          · have f2 : ¬ (y.toNat : Int) = 93 := by omega
            have f1 : ((y.toNat : Int) != 93) = true := by simpa using f2
            have HZ := Lib.hid (HBAD.out (by unfold mbN; rw [ha]; simpa using h93))
            go_wp2_with fail
            refine (A2.out _).mono ?_
            rintro e w1 ⟨rfl, rfl⟩
            go_wp2_with fail
            go_ret
            exact ⟨ret_bool HZ.out.symm, HB.out⟩
      · obtain rfl : k = x.length := by omega
        have HZ : Hid (q = true) := Lib.hid (by
          rw [← HQ.out]
          have := hA.out
          rwa [List.take_length] at this)
        go_wp2_with fail
        go_ret
        exact ⟨ret_bool HZ.out.symm, HB.out⟩
  · rw [if_neg h4]
    have e4' : ¬ (t.kind : Int) = 4 := by omega
    have e4 : ((t.kind : Int) != 4) = true := by simpa using e4'
    by_cases h5 : t.kind = 5
    · have R := Lib.hid (show decide (t.kind = 5 ∨ t.kind = 6) = true by simp [h5])
      have e5 : ((t.kind : Int) == 5) = true := by rw [h5]; rfl
      clear h4 h5 e4'
      go_enter Tryz.func48, Tryz.ntmps48
      go_wp2_with fail
      go_ret
      exact ⟨ret_bool R.out.symm, HB.out⟩
    · have e5' : ¬ (t.kind : Int) = 5 := by omega
      have e5 : ((t.kind : Int) == 5) = false := by simpa using e5'
      have R := Lib.hid (show ((t.kind : Int) == 6) = decide (t.kind = 5 ∨ t.kind = 6) by rw [Bool.eq_iff_iff]; simp [h5]; omega)
      clear h4 h5
      go_enter Tryz.func48, Tryz.ntmps48
      go_wp2_with fail
      go_ret
      exact ⟨ret_bool R.out, HB.out⟩
end Go.Proofs.YthfopimgdikpgaaGreatDoor
