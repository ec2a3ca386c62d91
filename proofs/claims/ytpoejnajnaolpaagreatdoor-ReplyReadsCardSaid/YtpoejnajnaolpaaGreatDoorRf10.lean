/- The reference of layer 10: word, line, flags, number, starts. -/
import Derived.Test.YtpoejnajnaolpaaGreatDoorRpGuess2
import Derived.Test.YtpoejnajnaolpaaGreatDoorGo
namespace Go.Proofs.YtpoejnajnaolpaaGreatDoor
open Go.RowKit

theorem seg_snoc {l : List UInt8} {p : UInt8 → Bool} {k j : Nat} (hlt : j < l.length) (hkj : k ≤ j) (ha : ((l.drop k).take (j - k)).all p = true) (hd : p l[j] = true) : ((l.drop k).take (j + 1 - k)).all p = true := by
  have hh : j - k < (l.drop k).length := by rw [List.length_drop]; omega
  rw [show j + 1 - k = (j - k) + 1 by omega, List.take_succ_eq_append_getElem hh, List.all_append, ha]
  have e : (l.drop k)[j - k] = l[j] := by
    rw [List.getElem_drop]
    congr 1
    omega
  rw [e]
  simp [hd]
theorem seg_end {l : List UInt8} {p : UInt8 → Bool} {k j : Nat} (hj : j ≤ l.length) (hkj : k ≤ j) (ha : ((l.drop k).take (j - k)).all p = true) (hend : ∀ h : j < l.length, p l[j] = false) : (l.drop k).takeWhile p = (l.take j).drop k := by
  rw [List.drop_take]
  refine takeWhile_at (l.drop k) (j - k) (by rw [List.length_drop]; omega) ha (fun h => ?_)
  rw [List.length_drop] at h
  rw [List.getElem_drop]
  have := hend (by omega)
  simpa [show k + (j - k) = j by omega] using this
theorem dw_drop (p : UInt8 → Bool) (r : List UInt8) : r.dropWhile p = r.drop (r.takeWhile p).length := by
  conv => rhs; arg 2; rw [← List.takeWhile_append_dropWhile (p := p) (l := r)]
  rw [List.drop_left]
theorem ne_int (y x : UInt8) : ((x.toNat : Int) != (y.toNat : Int)) = (x != y) := by
  by_cases h : x = y
  · subst h; simp
  · have h1 : (x != y) = true := by rw [bne_iff_ne]; exact h
    rw [h1, bne_iff_ne]
    intro e
    exact h (UInt8.toNat_inj.1 (by omega))

set_option maxRecDepth 100000 in
set_option maxHeartbeats 2000000 in
theorem word10_any (B c n k : Nat) (A : Option Addr) (l : List UInt8) (hn : l.length = n) (hk : k ≤ n) (hl : n ≤ 1000000) (w : World) (hA : ByAt B w A c l) :
    Calls Tryz.prog 41 #[.slice A n c, .int .i64 (k : Int)] w fun e w' => (∃ m : Nat, m ≤ n ∧ l.drop m = (wordT (l.drop k)).2 ∧ e = .returned (.tuple #[.string ⟨(wordT (l.drop k)).1.toArray⟩, .int .i64 (m : Int)])) ∧ w = w' := by
  have HA := Lib.hid hA
  have HN := Lib.hid hn
  have hle := hA.le
  rw [hn] at hle
  have hse := fun x lo hi mx W => sliceAt_eq x lo hi mx W
  have HT := Lib.hid (fun (j : Nat) (hj : j ≤ n) (hkj : k ≤ j) (ha : ((l.drop k).take (j - k)).all (· != 32) = true) (hend : ∀ h : j < l.length, (l[j] != 32) = false) => show wordT (l.drop k) = ((l.take j).drop k, (l.drop j).drop 1) by
    unfold wordT
    have e := seg_end (p := (· != 32)) (by rw [hn]; exact hj) hkj ha hend
    have e2 : (l.drop k).drop (j - k) = l.drop j := by
      rw [List.drop_drop]
      congr 1
      omega
    rw [dw_drop, e, cut_len (by rw [hn]; exact hj), e2])
  have HCV := Lib.hid (fun (j : Nat) (hj : j ≤ n) (hkj : k ≤ j) => convS B w (offA A c k) (c - k) (j - k) ((l.take j).drop k) (hA.cut hkj (by rw [hn]; exact hj)) (cut_len (by rw [hn]; exact hj)))
  generalize wordT (l.drop k) = T at *
  clear hn
  go_enter Tryz.func41, Tryz.ntmps41
  go_wp2_with fail
  go_loop [6] (fun i => ∃ j : Nat, k ≤ j ∧ j ≤ n ∧ i = .int .i64 (j : Int) ∧ Hid (((l.drop k).take (j - k)).all (· != 32) = true)) (fun i => n - (intOf i).toNat)
  case atStart => exact ⟨k, Nat.le_refl _, hk, rfl, Lib.hid (by rw [Nat.sub_self]; rfl)⟩
  case round =>
    obtain ⟨j, hkj, hj, rfl, hD⟩ := hrel
    have hlh := fun W => slice_lh A n c k j hkj (by omega) W
    have hcv := HCV.out j hj hkj
    by_cases hlt : j < n
    · have hlx : j < l.length := by rw [HN.out]; exact hlt
      obtain ⟨b, off, rfl, _, _, hc⟩ := HA.out.cell hlx
      have d1 : decide ((j : Int) < (n : Int)) = true := by simp; omega
      have d2 : (((j : Int)) == (n : Int)) = false := by simp; omega
      have hk0 : (0 : Int) ≤ (j : Int) := by omega
      have hk1 : (j : Int) < (n : Int) := by omega
      have hne := ne_int 32 l[j]
      cases hp : (l[j] != 32) with
      | true =>
        have HN2 := Lib.hid (seg_snoc (p := (· != 32)) hlx hkj hD.out hp)
        rw [hp] at hne
        have hne : ((l[j].toNat : Int) != 32) = true := hne
        clear hp hcv hlh HCV
        generalize l[j].toNat = x at *
        go_wp2_with fail
        go_round
        case rel => exact ⟨j + 1, by omega, by omega, by go_num, HN2⟩
        case measure => simp [intOf]; omega
      | false =>
        have HX := Lib.hid (HT.out j hj hkj hD.out (fun _ => hp))
        rw [hp] at hne
        have hne : ((l[j].toNat : Int) != 32) = false := hne
        clear hp HT HCV
        generalize l[j].toNat = x at *
        generalize (l.take j).drop k = q at *
        go_wp2_with fail
        refine bodyPost_ret (v := .tuple #[.string ⟨q.toArray⟩, .int .i64 ((j + 1 : Nat) : Int)]) (by simp [results, Tryz.results41, go_sem]) rfl ⟨⟨j + 1, by omega, by rw [HX.out, List.drop_drop], by rw [HX.out]⟩, rfl⟩
    · obtain rfl : j = n := by omega
      have HX := Lib.hid (HT.out j hj hkj hD.out (fun h => absurd h (by rw [HN.out]; omega)))
      have HND := Lib.hid (show l.drop j = (l.drop j).drop 1 by rw [List.drop_eq_nil_of_le (by rw [HN.out]; omega)]; rfl)
      have d1 : decide ((j : Int) < (j : Int)) = false := by simp
      clear HT HCV
      generalize (l.take j).drop k = q at *
      go_wp2_with fail
      refine bodyPost_ret (v := .tuple #[.string ⟨q.toArray⟩, .int .i64 ((j : Nat) : Int)]) (by simp [results, Tryz.results41, go_sem]) rfl ⟨⟨j, by omega, by rw [HX.out]; exact HND.out, by rw [HX.out]⟩, rfl⟩

set_option maxRecDepth 100000 in
set_option maxHeartbeats 2000000 in
theorem starts_any (B c n k : Nat) (A : Option Addr) (l m : List UInt8) (hn : l.length = n) (hk : k ≤ n) (hl : n ≤ 1000000) (hm : m.length ≤ 1000000) (w : World) (hA : ByAt B w A c l) :
    Calls Tryz.prog 29 #[.slice A n c, .int .i64 (k : Int), .string ⟨m.toArray⟩] w fun e w' => e = .returned (.bool (m.isPrefixOf (l.drop k))) ∧ w = w' := by
  have hle := hA.le
  rw [hn] at hle
  have hse := fun x lo hi mx W => sliceAt_eq x lo hi mx W
  have g1 : decide ((k : Int) ≤ (n : Int)) = true := by simp; omega
  have gz : (ByteArray.mk m.toArray).size = m.length := by simp [ByteArray.size]
  by_cases hlt : m.length ≤ n - k
  · have g2 : decide ((m.length : Int) ≤ (n : Int) - (k : Int)) = true := by simp; omega
    have hlh := fun W => slice_lh A n c k (k + m.length) (by omega) (by omega) W
    rw [Nat.add_sub_cancel_left] at hlh
    have hcast : ((k + m.length : Nat) : Int) = (k : Int) + (m.length : Int) := by omega
    rw [hcast] at hlh
    have hcv := convS B w (offA A c k) (c - k) m.length ((l.take (k + m.length)).drop k) (hA.cut (by omega) (by omega)) (by rw [cut_len (by omega)]; omega)
    have R := Lib.hid (show m.isPrefixOf (l.drop k) = ((l.take (k + m.length)).drop k == m) by
      rw [Bool.eq_iff_iff, beq_iff_eq, List.isPrefixOf_iff_prefix, List.prefix_iff_eq_take, List.drop_take, Nat.add_sub_cancel_left]
      exact ⟨Eq.symm, Eq.symm⟩)
    generalize m.isPrefixOf (l.drop k) = q at *
    generalize (l.take (k + m.length)).drop k = x at *
    have hw1 : IntKind.i64.wrap ((n : Int) - (k : Int)) = (n : Int) - (k : Int) := IntWalk.i64_in _ (by omega)
    have hw2 : IntKind.i64.wrap ((k : Int) + (m.length : Int)) = (k : Int) + (m.length : Int) := IntWalk.i64_in _ (by omega)
    clear hA hn hcast
    generalize m.length = mn at *
    cases hq : (x == m) with
    | false =>
      rw [hq] at R
      go_enter Tryz.func29, Tryz.ntmps29
      go_wp2_with fail
      go_ret
      exact ⟨ret_bool R.out.symm, rfl⟩
    | true =>
      rw [hq] at R
      obtain rfl := beq_iff_eq.1 hq
      clear hq
      go_enter Tryz.func29, Tryz.ntmps29
      go_wp2_with fail
      go_ret
      exact ⟨ret_bool R.out.symm, rfl⟩
  · have g2 : decide ((m.length : Int) ≤ (n : Int) - (k : Int)) = false := by simp; omega
    have R := Lib.hid (show m.isPrefixOf (l.drop k) = false by
      rw [Bool.eq_false_iff]
      intro e
      rw [List.isPrefixOf_iff_prefix] at e
      have := e.length_le
      rw [List.length_drop] at this
      omega)
    have hw1 : IntKind.i64.wrap ((n : Int) - (k : Int)) = (n : Int) - (k : Int) := IntWalk.i64_in _ (by omega)
    clear hA hn
    generalize m.length = mn at *
    go_enter Tryz.func29, Tryz.ntmps29
    go_wp2_with fail
    go_ret
    exact ⟨ret_bool R.out.symm, rfl⟩
end Go.Proofs.YtpoejnajnaolpaaGreatDoor
