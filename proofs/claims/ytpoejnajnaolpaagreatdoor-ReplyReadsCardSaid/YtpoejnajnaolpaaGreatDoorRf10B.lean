/- The reference of layer 10: flags, number, line. -/
import Derived.Test.YtpoejnajnaolpaaGreatDoorRf10
import Derived.Test.YtpoejnajnaolpaaGreatDoorRpRun2
namespace Go.Proofs.YtpoejnajnaolpaaGreatDoor
open Go.RowKit

set_option maxRecDepth 100000 in
set_option maxHeartbeats 2000000 in
theorem flags10_any (B c n k : Nat) (A : Option Addr) (l : List UInt8) (hn : l.length = n) (hk : k ≤ n) (hl : n ≤ 1000000) (w : World) (hA : ByAt B w A c l) :
    Calls Tryz.prog 62 #[.slice A n c, .int .i64 (k : Int)] w fun e w' => ((∃ f m : Nat, f < 32 ∧ k ≤ m ∧ m ≤ n ∧ flgT (l.drop k) = some (f, l.drop m) ∧ e = .returned (.tuple #[.int .i64 (f : Int), .int .i64 (m : Int)])) ∨ (flgT (l.drop k) = none ∧ e = .returned (.tuple #[.int .i64 0, .int .i64 (-1)]))) ∧ Below w.heap.size w w' := by
  have HA := Lib.hid hA
  have HN := Lib.hid hn
  have hle := hA.le
  rw [hn] at hle
  have hse := fun x lo hi mx W => sliceAt_eq x lo hi mx W
  have HTW := Lib.hid (fun (j : Nat) (hj : j ≤ n) (hkj : k ≤ j) (ha : ((l.drop k).take (j - k)).all (· != 41) = true) (hend : ∀ h : j < l.length, (l[j] != 41) = false) => seg_end (p := (· != 41)) (by rw [hn]; exact hj) hkj ha hend)
  have HF : Hid (flgT (l.drop k) = if ((l.drop k).takeWhile (· != 41)).length = (l.drop k).length then none else (parseF ((l.drop k).takeWhile (· != 41) ++ [41])).map fun f => (f, (l.drop k).drop (((l.drop k).takeWhile (· != 41)).length + 1))) := Lib.hid rfl
  have HDL := Lib.hid (show (l.drop k).length = n - k by rw [List.length_drop, hn])
  generalize flgT (l.drop k) = T at *
  clear hn
  go_enter Tryz.func62, Tryz.ntmps62
  go_wp2_with fail
  go_loop [6] (fun i => ∃ j : Nat, k ≤ j ∧ j ≤ n ∧ i = .int .i64 (j : Int) ∧ Hid (((l.drop k).take (j - k)).all (· != 41) = true)) (fun i => n - (intOf i).toNat)
  case atStart => exact ⟨k, Nat.le_refl _, hk, rfl, Lib.hid (by rw [Nat.sub_self]; rfl)⟩
  case round =>
    obtain ⟨j, hkj, hj, rfl, hD⟩ := hrel
    by_cases hlt : j < n
    · have hlx : j < l.length := by rw [HN.out]; exact hlt
      obtain ⟨b, off, rfl, _, _, hc⟩ := HA.out.cell hlx
      have d1 : decide ((j : Int) < (n : Int)) = true := by simp; omega
      have d2 : (((j : Int)) == (n : Int)) = false := by simp; omega
      have hk0 : (0 : Int) ≤ (j : Int) := by omega
      have hk1 : (j : Int) < (n : Int) := by omega
      have hne := ne_int 41 l[j]
      cases hp : (l[j] != 41) with
      | true =>
        have HN2 := Lib.hid (seg_snoc (p := (· != 41)) hlx hkj hD.out hp)
        rw [hp] at hne
        have hne : ((l[j].toNat : Int) != 41) = true := hne
        clear hp
        generalize l[j].toNat = x at *
        go_wp2_with fail
        go_round
        case rel => exact ⟨j + 1, by omega, by omega, by go_num, HN2⟩
        case measure => simp [intOf]; omega
      | false =>
        have htw := HTW.out j hj hkj hD.out (fun _ => hp)
        have h41 : l[j] = 41 := by simpa using hp
        have hcl : ((l.take j).drop k).length = j - k := cut_len (by rw [HN.out]; exact hj)
        have hseg : (l.take j).drop k ++ [41] = (l.take (j + 1)).drop k := by
          rw [List.drop_take, List.drop_take, show j + 1 - k = (j - k) + 1 by omega]
          have hh : j - k < (l.drop k).length := by rw [HDL.out]; omega
          rw [List.take_succ_eq_append_getElem hh, List.getElem_drop]
          congr 2
          rw [← h41]
          congr 1
          omega
        have HX := Lib.hid (show T = (parseF ((l.take (j + 1)).drop k)).map fun f => (f, l.drop (j + 1)) by
          rw [HF.out, htw, hcl, HDL.out, if_neg (by omega), hseg, List.drop_drop, show k + (j - k + 1) = j + 1 by omega])
        have hlh := fun W => slice_lh (some ⟨b, off, none⟩) n c k (j + 1) (by omega) (by omega) W
        have hcast : ((j + 1 : Nat) : Int) = (j : Int) + 1 := by omega
        rw [hcast] at hlh
        have hcv := convS B w (offA (some ⟨b, off, none⟩) c k) (c - k) (j + 1 - k) ((l.take (j + 1)).drop k) (HA.out.cut (by omega) (by rw [HN.out]; omega)) (cut_len (by rw [HN.out]; omega))
        have hsl : ((l.take (j + 1)).drop k).length = j + 1 - k := cut_len (by rw [HN.out]; omega)
        obtain ⟨x, hx⟩ : ∃ x, (l.take (j + 1)).drop k = x := ⟨_, rfl⟩
        rw [hx] at hcv HX hsl
        have PR := Lib.hid (refParse_any ⟨x.toArray⟩ (by simp [ByteArray.size]; omega) w)
        rw [show (ByteArray.mk x.toArray).data.toList = x from rfl] at PR
        obtain ⟨o, ho⟩ : ∃ o, parseF x = o := ⟨_, rfl⟩
        have HLT := Lib.hid (fun f (h : o = some f) => parse_lt (ho.trans h))
        rw [ho] at PR HX
        rw [hp] at hne
        have hne : ((l[j].toNat : Int) != 41) = false := hne
        clear hp htw hcl hseg h41 hsl ho hx HTW HF hcast
        generalize l[j].toNat = y at *
        go_wp2_with fail
        refine PR.out.mono ?_
        rintro e w1 ⟨rfl, hb1⟩
        have HB1 := Lib.hid hb1
        clear hb1 PR
        cases o with
        | none =>
          have hr : refO none = -1 := rfl
          go_wp2_with fail
          refine bodyPost_ret (v := .tuple #[.int .i64 0, .int .i64 (-1)]) (by simp [results, Tryz.results62, go_sem]) rfl ⟨.inr ⟨HX.out, rfl⟩, HB1.out⟩
        | some f =>
          have hr : refO (some f) = (f : Int) := rfl
          have hf := HLT.out f rfl
          go_wp2_with fail
          refine bodyPost_ret (v := .tuple #[.int .i64 (f : Int), .int .i64 ((j + 1 : Nat) : Int)]) (by simp [results, Tryz.results62, go_sem]) rfl ⟨.inl ⟨f, j + 1, hf, by omega, by omega, HX.out, rfl⟩, HB1.out⟩
    · obtain rfl : j = n := by omega
      have HX := Lib.hid (show T = none by
        rw [HF.out, HTW.out j hj hkj hD.out (fun h => absurd h (by rw [HN.out]; omega)), cut_len (by rw [HN.out]; exact hj), HDL.out, if_pos rfl])
      have d1 : decide ((j : Int) < (j : Int)) = false := by simp
      clear HTW HF
      go_wp2_with fail
      refine bodyPost_ret (v := .tuple #[.int .i64 0, .int .i64 (-1)]) (by simp [results, Tryz.results62, go_sem]) rfl ⟨.inr ⟨HX.out, rfl⟩, Below.refl _ _⟩

set_option maxRecDepth 100000 in
set_option maxHeartbeats 2000000 in
theorem number10_any (B c n k : Nat) (A : Option Addr) (l : List UInt8) (hn : l.length = n) (hk : k ≤ n) (hl : n ≤ 1000000) (w : World) (hA : ByAt B w A c l) :
    Calls Tryz.prog 63 #[.slice A n c, .int .i64 (k : Int)] w fun e w' => ((∃ u m : Nat, k ≤ m ∧ m ≤ n ∧ numT (l.drop k) = some (u, l.drop m) ∧ e = .returned (.tuple #[.int .u32 (u : Int), .int .i64 (m : Int)])) ∨ (numT (l.drop k) = none ∧ e = .returned (.tuple #[.int .u32 0, .int .i64 (-1)]))) ∧ w = w' := by
  have HA := Lib.hid hA
  have HN := Lib.hid hn
  have hle := hA.le
  rw [hn] at hle
  have hse := fun x lo hi mx W => sliceAt_eq x lo hi mx W
  have HT := Lib.hid (fun (j : Nat) (hj : j ≤ n) (hkj : k ≤ j) (hj11 : j - k ≤ 11) (ha : ((l.drop k).take (j - k)).all isDig = true) (hend : ∀ h : j < l.length, j - k < 11 → isDig l[j] = false) => show numT (l.drop k) = (numOf ((l.take j).drop k)).map fun u => (u, l.drop j) by
    have e : ((l.drop k).take 11).takeWhile isDig = (l.take j).drop k := by
      rw [List.drop_take]
      have e1 : ((l.drop k).take 11).take (j - k) = (l.drop k).take (j - k) := by rw [List.take_take, Nat.min_eq_left hj11]
      rw [← e1]
      refine takeWhile_at _ (j - k) (by rw [List.length_take, List.length_drop]; omega) (by rw [e1]; exact ha) (fun h => ?_)
      rw [List.length_take, List.length_drop] at h
      rw [List.getElem_take, List.getElem_drop]
      have := hend (by omega) (by omega)
      simpa [show k + (j - k) = j by omega] using this
    unfold numT
    rw [e, cut_len (by rw [hn]; exact hj)]
    have e2 : (l.drop k).drop (j - k) = l.drop j := by
      rw [List.drop_drop]
      congr 1
      omega
    rw [e2])
  generalize numT (l.drop k) = T at *
  clear hn
  go_enter Tryz.func63, Tryz.ntmps63
  go_wp2_with fail
  go_loop [6] (fun i => ∃ j : Nat, k ≤ j ∧ j ≤ n ∧ j - k ≤ 11 ∧ i = .int .i64 (j : Int) ∧ Hid (((l.drop k).take (j - k)).all isDig = true)) (fun i => n - (intOf i).toNat)
  case atStart => exact ⟨k, Nat.le_refl _, hk, by omega, rfl, Lib.hid (by rw [Nat.sub_self]; rfl)⟩
  case round =>
    obtain ⟨j, hkj, hj, hj11, rfl, hD⟩ := hrel
    have FIN := Lib.hid (fun (hend : ∀ h : j < l.length, j - k < 11 → isDig l[j] = false) => HT.out j hj hkj hj11 hD.out hend)
    have hlh := fun W => slice_lh A n c k j hkj (by omega) W
    have hcv := convS B w (offA A c k) (c - k) (j - k) ((l.take j).drop k) (HA.out.cut hkj (by rw [HN.out]; exact hj)) (cut_len (by rw [HN.out]; exact hj))
    have hql : ((l.take j).drop k).length ≤ 1000000 := by rw [cut_len (by rw [HN.out]; exact hj)]; omega
    obtain ⟨q, hq⟩ : ∃ q, (l.take j).drop k = q := ⟨_, rfl⟩
    rw [hq] at hcv FIN hql
    have RN := Lib.hid (refNumber_any ⟨q.toArray⟩ (by simp [ByteArray.size]; omega) w)
    rw [show (ByteArray.mk q.toArray).data.toList = q from rfl] at RN
    have hwk : IntKind.i64.wrap ((j : Int) - (k : Int)) = (j : Int) - (k : Int) := IntWalk.i64_in _ (by omega)
    obtain ⟨o, ho⟩ : ∃ o, numOf q = o := ⟨_, rfl⟩
    rw [ho] at RN FIN
    have go_on : (j < n ∧ j - k < 11 ∧ ∃ h : j < l.length, isDig l[j] = true) ∨ ¬ (j < n ∧ j - k < 11 ∧ ∃ h : j < l.length, isDig l[j] = true) := Decidable.em _
    clear hq ho hql
    rcases go_on with ⟨hlt, h11, hlx, hdg⟩ | hno
    · obtain ⟨b, off, rfl, _, _, hc⟩ := HA.out.cell hlx
      have d1 : decide ((j : Int) < (n : Int)) = true := by simp; omega
      have hk0 : (0 : Int) ≤ (j : Int) := by omega
      have hk1 : (j : Int) < (n : Int) := by omega
      have HN2 := Lib.hid (seg_snoc (p := isDig) hlx hkj hD.out hdg)
      unfold isDig at hdg
      rw [decide_eq_true_eq] at hdg
      have a1 : decide ((48 : Int) ≤ (l[j].toNat : Int)) = true := by simp; omega
      have a2 : decide ((l[j].toNat : Int) ≤ 57) = true := by simp; omega
      have a3 : decide ((j : Int) - (k : Int) < 11) = true := by simp; omega
      clear hdg FIN RN hcv hlh
      generalize l[j].toNat = x at *
      go_wp2_with fail
      go_round
      case rel => exact ⟨j + 1, by omega, by omega, by omega, by go_num, HN2⟩
      case measure => simp [intOf]; omega
    · have HX := Lib.hid (FIN.out (fun h h11 => by
        rw [← Bool.not_eq_true]
        exact fun hd => hno ⟨by rw [← HN.out]; exact h, h11, h, hd⟩))
      by_cases hlt : j < n
      · have hlx : j < l.length := by rw [HN.out]; exact hlt
        obtain ⟨b, off, rfl, _, _, hc⟩ := HA.out.cell hlx
        have d1 : decide ((j : Int) < (n : Int)) = true := by simp; omega
        have hk0 : (0 : Int) ≤ (j : Int) := by omega
        have hk1 : (j : Int) < (n : Int) := by omega
        have hcond : ¬ (48 ≤ l[j].toNat ∧ l[j].toNat ≤ 57 ∧ j - k < 11) := fun ⟨h1, h2, h3⟩ => hno ⟨hlt, h3, hlx, by unfold isDig; rw [decide_eq_true_eq]; exact ⟨h1, h2⟩⟩
        clear hno FIN
        generalize l[j].toNat = x at *
        by_cases b1 : 48 ≤ x
        · have a1 : decide ((48 : Int) ≤ (x : Int)) = true := by simp; omega
          by_cases b2 : x ≤ 57
          · have a2 : decide ((x : Int) ≤ 57) = true := by simp; omega
            have a3 : decide ((j : Int) - (k : Int) < 11) = false := by simp; omega
            clear hcond
            go_wp2_with fail
            refine RN.out.mono ?_
            rintro e w1 ⟨rfl, rfl⟩
            cases o with
            | none =>
              go_wp2_with fail
              refine bodyPost_ret (v := .tuple #[.int .u32 0, .int .i64 (-1)]) (by simp [results, Tryz.results63, go_sem]) rfl ⟨.inr ⟨HX.out, rfl⟩, rfl⟩
            | some u =>
              go_wp2_with fail
              refine bodyPost_ret (v := .tuple #[.int .u32 (u : Int), .int .i64 (j : Int)]) (by simp [results, Tryz.results63, go_sem]) rfl ⟨.inl ⟨u, j, hkj, hj, HX.out, rfl⟩, rfl⟩
          · have a2 : decide ((x : Int) ≤ 57) = false := by simp; omega
            clear hcond
            go_wp2_with fail
            refine RN.out.mono ?_
            rintro e w1 ⟨rfl, rfl⟩
            cases o with
            | none =>
              go_wp2_with fail
              refine bodyPost_ret (v := .tuple #[.int .u32 0, .int .i64 (-1)]) (by simp [results, Tryz.results63, go_sem]) rfl ⟨.inr ⟨HX.out, rfl⟩, rfl⟩
            | some u =>
              go_wp2_with fail
              refine bodyPost_ret (v := .tuple #[.int .u32 (u : Int), .int .i64 (j : Int)]) (by simp [results, Tryz.results63, go_sem]) rfl ⟨.inl ⟨u, j, hkj, hj, HX.out, rfl⟩, rfl⟩
        · have a1 : decide ((48 : Int) ≤ (x : Int)) = false := by simp; omega
          clear hcond
          go_wp2_with fail
          refine RN.out.mono ?_
          rintro e w1 ⟨rfl, rfl⟩
          cases o with
          | none =>
            go_wp2_with fail
            refine bodyPost_ret (v := .tuple #[.int .u32 0, .int .i64 (-1)]) (by simp [results, Tryz.results63, go_sem]) rfl ⟨.inr ⟨HX.out, rfl⟩, rfl⟩
          | some u =>
            go_wp2_with fail
            refine bodyPost_ret (v := .tuple #[.int .u32 (u : Int), .int .i64 (j : Int)]) (by simp [results, Tryz.results63, go_sem]) rfl ⟨.inl ⟨u, j, hkj, hj, HX.out, rfl⟩, rfl⟩
      · obtain rfl : j = n := by omega
        have d1 : decide ((j : Int) < (j : Int)) = false := by simp
        clear hno FIN
        go_wp2_with fail
        refine RN.out.mono ?_
        rintro e w1 ⟨rfl, rfl⟩
        cases o with
        | none =>
          go_wp2_with fail
          refine bodyPost_ret (v := .tuple #[.int .u32 0, .int .i64 (-1)]) (by simp [results, Tryz.results63, go_sem]) rfl ⟨.inr ⟨HX.out, rfl⟩, rfl⟩
        | some u =>
          go_wp2_with fail
          refine bodyPost_ret (v := .tuple #[.int .u32 (u : Int), .int .i64 (j : Int)]) (by simp [results, Tryz.results63, go_sem]) rfl ⟨.inl ⟨u, j, hkj, hj, HX.out, rfl⟩, rfl⟩
end Go.Proofs.YtpoejnajnaolpaaGreatDoor
