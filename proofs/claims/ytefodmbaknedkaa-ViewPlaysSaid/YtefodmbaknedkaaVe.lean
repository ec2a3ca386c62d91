/- slices.Sort of numbers: the partial insertion sort. -/
import Derived.Test.YtefodmbaknedkaaSoA
import Derived.Deep.Cut
import Derived.Deep.DeepCutAuto
import Derived.Deep.CutBlock
namespace Go.Proofs.Ytefodmbaknedkaa
open Go.RowKit

variable {w0 W : World} {blk off n : Nat} {d : Array Nat}
theorem scs_go {D : Array Nat} {b i : Nat} (h : (decide (i < b) && !ltN D[i]! D[i - 1]!) = true) : Sort.scanSorted ltN D b i = Sort.scanSorted ltN D b (i + 1) := by
  rw [Sort.scanSorted, if_pos h]
theorem scs_stop {D : Array Nat} {b i : Nat} (h : (decide (i < b) && !ltN D[i]! D[i - 1]!) = false) : Sort.scanSorted ltN D b i = i := by
  rw [Sort.scanSorted, if_neg (by rw [h]; simp)]
theorem sdn_stop {j : Nat} {D : Array Nat} (hj : 1 ≤ j) (h : ltN D[j]! D[j - 1]! = false) : Sort.shiftDown ltN j D = D := by
  obtain ⟨j, rfl⟩ : ∃ k, j = k + 1 := ⟨j - 1, by omega⟩
  rw [Sort.shiftDown, if_pos (by rw [show ltN D[j + 1]! D[j]! = false from h]; rfl)]
theorem sdn_go {j : Nat} {D : Array Nat} (hj : 1 ≤ j) (h : ltN D[j]! D[j - 1]! = true) : Sort.shiftDown ltN j D = Sort.shiftDown ltN (j - 1) (Sort.swp D j (j - 1)) := by
  obtain ⟨j, rfl⟩ : ∃ k, j = k + 1 := ⟨j - 1, by omega⟩
  rw [Sort.shiftDown, if_neg (by rw [show ltN D[j + 1]! D[j]! = true from h]; simp)]
  rfl
theorem sup_end {b j : Nat} {D : Array Nat} (h : ¬ j < b) : Sort.shiftUp ltN b j D = D := by rw [Sort.shiftUp, if_neg h]
theorem sup_stop {b j : Nat} {D : Array Nat} (hj : j < b) (h : ltN D[j]! D[j - 1]! = false) : Sort.shiftUp ltN b j D = D := by
  rw [Sort.shiftUp, if_pos hj, if_pos (by rw [h]; rfl)]
theorem sup_go {b j : Nat} {D : Array Nat} (hj : j < b) (h : ltN D[j]! D[j - 1]! = true) : Sort.shiftUp ltN b j D = Sort.shiftUp ltN b (j + 1) (Sort.swp D j (j - 1)) := by
  rw [Sort.shiftUp, if_pos hj, if_neg (by rw [h]; simp)]
theorem pi_true {a b s i i0 : Nat} {D : Array Nat} (h : i = Sort.scanSorted ltN D b i0) (hib : i = b) : Sort.partialIns ltN a b (s + 1) i0 D = (D, true) := by
  subst h
  rw [Sort.partialIns]
  exact if_pos hib
theorem pi_false {a b s i i0 : Nat} {D : Array Nat} (h : i = Sort.scanSorted ltN D b i0) (hib : ¬ i = b) (hl : b - a < 50) : Sort.partialIns ltN a b (s + 1) i0 D = (D, false) := by
  subst h
  rw [Sort.partialIns]
  exact (if_neg hib).trans (if_pos hl)
theorem pi_go {a b s i i0 : Nat} {D D2 D3 : Array Nat} (h : i = Sort.scanSorted ltN D b i0) (hib : ¬ i = b) (hl : ¬ b - a < 50)
    (h2 : (2 ≤ i - a ∧ D2 = Sort.shiftDown ltN (i - 1) (Sort.swp D i (i - 1))) ∨ (¬ 2 ≤ i - a ∧ D2 = Sort.swp D i (i - 1))) (h3 : (2 ≤ b - i ∧ D3 = Sort.shiftUp ltN b (i + 1) D2) ∨ (¬ 2 ≤ b - i ∧ D3 = D2)) :
    Sort.partialIns ltN a b (s + 1) i0 D = Sort.partialIns ltN a b s i D3 := by
  have e2 : (if i - a ≥ 2 then Sort.shiftDown ltN (i - 1) (Sort.swp D i (i - 1)) else Sort.swp D i (i - 1)) = D2 := by
    rcases h2 with ⟨h, rfl⟩ | ⟨h, rfl⟩
    · exact if_pos h
    · exact if_neg h
  have e3 : (if b - i ≥ 2 then Sort.shiftUp ltN b (i + 1) D2 else D2) = D3 := by
    rcases h3 with ⟨h, rfl⟩ | ⟨h, rfl⟩
    · exact if_pos h
    · exact if_neg h
  subst h
  rw [Sort.partialIns]
  refine ((if_neg hib).trans (if_neg hl)).trans ?_
  rw [← e3, ← e2]

set_option maxRecDepth 100000 in
set_option maxHeartbeats 8000000 in
theorem partial_any (c a b : Nat) (hab : a < b) (hbn : b ≤ n) (hn : n ≤ 1000000000) (H : Rw w0 blk off n d W) :
    Calls Try.prog 55 #[.slice (some ⟨blk, off, none⟩) n c, .int .i64 a, .int .i64 b] W fun e w' => ∃ (r : Bool) (D : Array Nat), Sort.partialInsertionSort ltN d a b = (D, r) ∧ e = .returned (.bool r) ∧ Hid (Rw w0 blk off n D w') := by
  have H0 := Lib.hid H
  clear H
  go_enter Try.func55, Try.ntmps55
  go_wp2_with fail
  go_loopw [7, 8] (fun s7 s8 wr => ∃ (i t s : Nat) (dk : Array Nat), s7 = .int .i64 i ∧ s8 = .int .i64 t ∧ a + 1 ≤ i ∧ i ≤ b ∧ t + s ≤ 5 ∧ 5 ≤ t + s ∧ Hid (Rw w0 blk off n dk wr) ∧ Hid (Sort.partialIns ltN a b s i dk = Sort.partialInsertionSort ltN d a b)) (fun _ s8 _ => 5 - (intOf s8).toNat)
  case atStart => exact ⟨a + 1, 0, 5, d, by go_num, rfl, by omega, by omega, by omega, by omega, H0, rfl⟩
  case round =>
    obtain ⟨i0, t, s, dk, rfl, rfl, hi1, hi2, ht1, ht2, H1, E0⟩ := hrel
    clear H0
    cases s with
    | zero =>
      have ht3 : ¬ t < 5 := by omega
      go_wp2_with fail
      go_ret
      exact ⟨false, dk, E0.out.symm, rfl, H1⟩
    | succ s =>
      have ht3 : t < 5 := by omega
      go_wp2_with fail
      go_loopw [7] (fun si wr => ∃ i : Nat, si = .int .i64 i ∧ i0 ≤ i ∧ i ≤ b ∧ Hid (Rw w0 blk off n dk wr) ∧ Hid (Sort.scanSorted ltN dk b i = Sort.scanSorted ltN dk b i0)) (fun si _ => b + 1 - (intOf si).toNat)
      case atStart => exact ⟨i0, by first | rfl | go_num, by omega, by omega, H1, rfl⟩
      case round =>
        obtain ⟨i, rfl, hloi, hhii, H1p, Ei⟩ := hrel
        clear H1
        obtain ⟨G, hG, hc, hf⟩ := H1p.out.fam
        have HG := Lib.hid hG
        clear hG
        go_upto_region 5 with (fail)
        go_cut [32] (fun sc wx => sc = .bool (decide (i < b) && !ltN (G i) (G (i - 1))) ∧ Hid (Rw w0 blk off n dk wx))
        case first =>
          by_cases hij : i < b
          · have hd : decide ((i : Int) < (b : Int)) = true := by simp; omega
            have hd2 : decide (i < b) = true := by simpa using hij
            go_quiet ((go_at_call 56; refine quietS (less_any _ _ _)))
            go_wp2_with fail
            go_meet
            exact ⟨by rw [hd2, Bool.true_and], H1p.out.drewN _⟩
          · have hd : decide ((i : Int) < (b : Int)) = false := by simp; omega
            have hd2 : decide (i < b) = false := by simpa using hij
            go_quiet (fail)
            go_wp2_with fail
            go_meet
            exact ⟨by rw [hd2, Bool.false_and], H1p.out.drewN _⟩
        case rest =>
          obtain ⟨rfl, H1q⟩ := hcut
          clear H1p hc hf
          cases hb : (decide (i < b) && !ltN (G i) (G (i - 1)))
          · have Si := Lib.hid ((scs_stop (D := dk) (by simpa only [HG.out] using hb)).symm.trans Ei.out)
            have Ni : Hid (i < b → (!ltN (G i) (G (i - 1))) = false) := fun h => by simpa [h] using hb
            clear hb Ei HG
            by_cases hib : i = b
            · have hb1 : ((i : Int) == (b : Int)) = true := by simp; omega
              go_wp2_with fail
              go_ret
              exact ⟨true, dk, (pi_true Si.out hib).symm.trans E0.out |>.symm, rfl, H1q⟩
            · have hb1 : ((i : Int) == (b : Int)) = false := by simp; omega
              by_cases hlen : b - a < 50
              · go_wp2_with fail
                go_ret
                exact ⟨false, dk, (pi_false Si.out hib hlen).symm.trans E0.out |>.symm, rfl, H1q⟩
              · skip
                obtain ⟨G, hG, hc, hf⟩ := H1q.out.fam
                have HG := Lib.hid hG
                clear hG
                obtain ⟨um, hm⟩ := H1q.out.mid (i) (i - 1) (by omega) (by omega) (.int .u32 (G (i - 1) : Int))
                have b1 : i < n := by omega
                have b2 : i - 1 < n := by omega
                go_wp2_with fail
                go_region
                clear b1 b2 hm
                obtain ⟨D1, hD1⟩ : ∃ D1, D1 = Sort.swp dk i (i - 1) := ⟨_, rfl⟩
                have H4 := Lib.hid ((H1q.out.swap HG.out (i) (i - 1) (by omega) (by omega)).drew.cast hD1.symm)
                have HD := Lib.hid hD1
                clear H1q hD1 HG hc hf
                generalize ((wc.setCell _ _).setCell _ _).drew = w4 at *
                by_cases hdn : 2 ≤ i - a
                · have hd1 : decide ((2 : Int) ≤ (i : Int) - (a : Int)) = true := by simp; omega
                  go_wp2_with fail
                  go_loopw [9] (fun sj wr => ∃ (j : Nat) (dj : Array Nat), sj = .int .i64 j ∧ j < i ∧ Hid (Rw w0 blk off n dj wr) ∧ Hid (Sort.shiftDown ltN j dj = Sort.shiftDown ltN (i - 1) D1)) (fun sj _ => (intOf sj).toNat)
                  case atStart => exact ⟨i - 1, _, by go_num, by omega, H4, rfl⟩
                  case round =>
                    obtain ⟨j, dj, rfl, hj1, H5, E5⟩ := hrel
                    clear H4
                    by_cases hj0 : 1 ≤ j
                    · obtain ⟨G, hG, hc, hf⟩ := H5.out.fam
                      have HG := Lib.hid hG
                      clear hG
                      cases hl : ltN (G j) (G (j - 1))
                      · have Z := Lib.hid ((sdn_stop hj0 (by rw [← HG.out, ← HG.out]; exact hl)).symm.trans E5.out)
                        go_wp2_with fail
                        go_quiet ((go_at_call 56; refine quietS (less_any _ _ _)))
                        have H7 := Lib.hid (H5.out.drewN nq)
                        clear H5 hc hf HG hl E5
                        generalize wr.drewN nq = w7 at *
                        by_cases hu : 2 ≤ b - i
                        · have hu1 : decide ((2 : Int) ≤ (b : Int) - (i : Int)) = true := by simp; omega
                          go_wp2_with fail
                          go_loopw [10] (fun sj wr => ∃ (ju : Nat) (du : Array Nat), sj = .int .i64 ju ∧ i + 1 ≤ ju ∧ ju ≤ b ∧ Hid (Rw w0 blk off n du wr) ∧ Hid (Sort.shiftUp ltN b ju du = Sort.shiftUp ltN b (i + 1) dj)) (fun sj _ => b - (intOf sj).toNat)
                          case atStart => exact ⟨i + 1, _, by go_num, by omega, by omega, H7, rfl⟩
                          case round =>
                            obtain ⟨ju, du, rfl, hju1, hju2, H6, E6⟩ := hrel
                            clear H7
                            by_cases hjb : ju < b
                            · obtain ⟨G, hG, hc, hf⟩ := H6.out.fam
                              have HG := Lib.hid hG
                              clear hG
                              cases hl : ltN (G ju) (G (ju - 1))
                              · go_wp2_with fail
                                go_quiet ((go_at_call 56; refine quietS (less_any _ _ _)))
                                go_wp2_with fail
                                go_roundw
                                case rel => exact ⟨i, t + 1, s, _, rfl, by go_num, by omega, by omega, by omega, by omega, H6.out.drewN _, (pi_go Si.out hib hlen (.inl ⟨hdn, by rw [← HD.out]; exact Z.out⟩) (.inl ⟨hu, (sup_stop hjb (by rw [← HG.out, ← HG.out]; exact hl)).symm.trans E6.out⟩)).symm.trans E0.out⟩
                                case measure => simp [intOf]; omega
                              · have E7 := Lib.hid ((sup_go hjb (by rw [← HG.out, ← HG.out]; exact hl)).symm.trans E6.out)
                                go_wp2_with fail
                                go_quiet ((go_at_call 56; refine quietS (less_any _ _ _)))
                                go_wp2_with fail
                                go_region
                                go_wp2_with fail
                                go_roundw
                                case rel => exact ⟨ju + 1, _, by go_num, by omega, by omega, (H6.out.drewN _).swap HG.out ju (ju - 1) (by omega) (by omega), E7⟩
                                case measure => simp [intOf]; omega
                            · skip
                              go_wp2_with fail
                              go_roundw
                              case rel => exact ⟨i, t + 1, s, _, rfl, by go_num, by omega, by omega, by omega, by omega, H6, (pi_go Si.out hib hlen (.inl ⟨hdn, by rw [← HD.out]; exact Z.out⟩) (.inl ⟨hu, (sup_end hjb).symm.trans E6.out⟩)).symm.trans E0.out⟩
                              case measure => simp [intOf]; omega
                        · have hu1 : ¬ (2 : Int) ≤ (b : Int) - (i : Int) := by omega
                          go_wp2_with fail
                          go_roundw
                          case rel => exact ⟨i, t + 1, s, _, rfl, by go_num, by omega, by omega, by omega, by omega, H7, (pi_go Si.out hib hlen (.inl ⟨hdn, by rw [← HD.out]; exact Z.out⟩) (.inr ⟨hu, rfl⟩)).symm.trans E0.out⟩
                          case measure => simp [intOf]; omega
                      · have E7 := Lib.hid ((sdn_go hj0 (by rw [← HG.out, ← HG.out]; exact hl)).symm.trans E5.out)
                        go_wp2_with fail
                        go_quiet ((go_at_call 56; refine quietS (less_any _ _ _)))
                        go_wp2_with fail
                        go_region
                        go_wp2_with fail
                        go_roundw
                        case rel => exact ⟨j - 1, _, by go_num, by omega, (H5.out.drewN _).swap HG.out j (j - 1) (by omega) (by omega), E7⟩
                        case measure => simp [intOf]; omega
                    · obtain rfl : j = 0 := by omega
                      have Z := Lib.hid (show dj = _ from E5.out)
                      clear E5
                      by_cases hu : 2 ≤ b - i
                      · have hu1 : decide ((2 : Int) ≤ (b : Int) - (i : Int)) = true := by simp; omega
                        go_wp2_with fail
                        go_loopw [10] (fun sj wr => ∃ (ju : Nat) (du : Array Nat), sj = .int .i64 ju ∧ i + 1 ≤ ju ∧ ju ≤ b ∧ Hid (Rw w0 blk off n du wr) ∧ Hid (Sort.shiftUp ltN b ju du = Sort.shiftUp ltN b (i + 1) dj)) (fun sj _ => b - (intOf sj).toNat)
                        case atStart => exact ⟨i + 1, _, by go_num, by omega, by omega, H5, rfl⟩
                        case round =>
                          obtain ⟨ju, du, rfl, hju1, hju2, H6, E6⟩ := hrel
                          clear H5
                          by_cases hjb : ju < b
                          · obtain ⟨G, hG, hc, hf⟩ := H6.out.fam
                            have HG := Lib.hid hG
                            clear hG
                            cases hl : ltN (G ju) (G (ju - 1))
                            · go_wp2_with fail
                              go_quiet ((go_at_call 56; refine quietS (less_any _ _ _)))
                              go_wp2_with fail
                              go_roundw
                              case rel => exact ⟨i, t + 1, s, _, rfl, by go_num, by omega, by omega, by omega, by omega, H6.out.drewN _, (pi_go Si.out hib hlen (.inl ⟨hdn, by rw [← HD.out]; exact Z.out⟩) (.inl ⟨hu, (sup_stop hjb (by rw [← HG.out, ← HG.out]; exact hl)).symm.trans E6.out⟩)).symm.trans E0.out⟩
                              case measure => simp [intOf]; omega
                            · have E7 := Lib.hid ((sup_go hjb (by rw [← HG.out, ← HG.out]; exact hl)).symm.trans E6.out)
                              go_wp2_with fail
                              go_quiet ((go_at_call 56; refine quietS (less_any _ _ _)))
                              go_wp2_with fail
                              go_region
                              go_wp2_with fail
                              go_roundw
                              case rel => exact ⟨ju + 1, _, by go_num, by omega, by omega, (H6.out.drewN _).swap HG.out ju (ju - 1) (by omega) (by omega), E7⟩
                              case measure => simp [intOf]; omega
                          · skip
                            go_wp2_with fail
                            go_roundw
                            case rel => exact ⟨i, t + 1, s, _, rfl, by go_num, by omega, by omega, by omega, by omega, H6, (pi_go Si.out hib hlen (.inl ⟨hdn, by rw [← HD.out]; exact Z.out⟩) (.inl ⟨hu, (sup_end hjb).symm.trans E6.out⟩)).symm.trans E0.out⟩
                            case measure => simp [intOf]; omega
                      · have hu1 : ¬ (2 : Int) ≤ (b : Int) - (i : Int) := by omega
                        go_wp2_with fail
                        go_roundw
                        case rel => exact ⟨i, t + 1, s, _, rfl, by go_num, by omega, by omega, by omega, by omega, H5, (pi_go Si.out hib hlen (.inl ⟨hdn, by rw [← HD.out]; exact Z.out⟩) (.inr ⟨hu, rfl⟩)).symm.trans E0.out⟩
                        case measure => simp [intOf]; omega
                · have hd1 : ¬ (2 : Int) ≤ (i : Int) - (a : Int) := by omega
                  by_cases hu : 2 ≤ b - i
                  · have hu1 : decide ((2 : Int) ≤ (b : Int) - (i : Int)) = true := by simp; omega
                    go_wp2_with fail
                    go_loopw [10] (fun sj wr => ∃ (ju : Nat) (du : Array Nat), sj = .int .i64 ju ∧ i + 1 ≤ ju ∧ ju ≤ b ∧ Hid (Rw w0 blk off n du wr) ∧ Hid (Sort.shiftUp ltN b ju du = Sort.shiftUp ltN b (i + 1) D1)) (fun sj _ => b - (intOf sj).toNat)
                    case atStart => exact ⟨i + 1, _, by go_num, by omega, by omega, H4, rfl⟩
                    case round =>
                      obtain ⟨ju, du, rfl, hju1, hju2, H6, E6⟩ := hrel
                      clear H4
                      by_cases hjb : ju < b
                      · obtain ⟨G, hG, hc, hf⟩ := H6.out.fam
                        have HG := Lib.hid hG
                        clear hG
                        cases hl : ltN (G ju) (G (ju - 1))
                        · go_wp2_with fail
                          go_quiet ((go_at_call 56; refine quietS (less_any _ _ _)))
                          go_wp2_with fail
                          go_roundw
                          case rel => exact ⟨i, t + 1, s, _, rfl, by go_num, by omega, by omega, by omega, by omega, H6.out.drewN _, (pi_go Si.out hib hlen (.inr ⟨hdn, HD.out⟩) (.inl ⟨hu, (sup_stop hjb (by rw [← HG.out, ← HG.out]; exact hl)).symm.trans E6.out⟩)).symm.trans E0.out⟩
                          case measure => simp [intOf]; omega
                        · have E7 := Lib.hid ((sup_go hjb (by rw [← HG.out, ← HG.out]; exact hl)).symm.trans E6.out)
                          go_wp2_with fail
                          go_quiet ((go_at_call 56; refine quietS (less_any _ _ _)))
                          go_wp2_with fail
                          go_region
                          go_wp2_with fail
                          go_roundw
                          case rel => exact ⟨ju + 1, _, by go_num, by omega, by omega, (H6.out.drewN _).swap HG.out ju (ju - 1) (by omega) (by omega), E7⟩
                          case measure => simp [intOf]; omega
                      · skip
                        go_wp2_with fail
                        go_roundw
                        case rel => exact ⟨i, t + 1, s, _, rfl, by go_num, by omega, by omega, by omega, by omega, H6, (pi_go Si.out hib hlen (.inr ⟨hdn, HD.out⟩) (.inl ⟨hu, (sup_end hjb).symm.trans E6.out⟩)).symm.trans E0.out⟩
                        case measure => simp [intOf]; omega
                  · have hu1 : ¬ (2 : Int) ≤ (b : Int) - (i : Int) := by omega
                    go_wp2_with fail
                    go_roundw
                    case rel => exact ⟨i, t + 1, s, _, rfl, by go_num, by omega, by omega, by omega, by omega, H4, (pi_go Si.out hib hlen (.inr ⟨hdn, HD.out⟩) (.inr ⟨hu, rfl⟩)).symm.trans E0.out⟩
                    case measure => simp [intOf]; omega
          · have hle : i < b := by simp at hb; exact hb.1
            have Fi := Lib.hid ((scs_go (D := dk) (by simpa only [HG.out] using hb)).symm.trans Ei.out)
            clear hb Ei HG
            go_wp2_with fail
            go_roundw
            case rel => exact ⟨i + 1, by go_num, by omega, by omega, H1q, Fi⟩
            case measure => simp [intOf]; omega
end Go.Proofs.Ytefodmbaknedkaa

namespace Go.Proofs.Ytefodmbaknedkaa
open Go.RowKit

variable {w0 W : World} {blk off n : Nat} {d : Array Nat}
/-- The greater child. -/
def chOf (hi first root : Nat) (d : Array Nat) : Nat := if (decide (2 * root + 1 + 1 < hi) && ltN d[first + 2 * root + 1]! d[first + 2 * root + 2]!) = true then 2 * root + 2 else 2 * root + 1
theorem ch_lt {hi first root : Nat} {d : Array Nat} (h : 2 * root + 1 < hi) : 2 * root + 1 ≤ chOf hi first root d ∧ chOf hi first root d < hi := by
  unfold chOf
  split
  · rename_i h2
    simp at h2
    omega
  · omega
theorem sd_end {hi first root : Nat} {d : Array Nat} (h : hi ≤ 2 * root + 1) : Sort.siftDown ltN hi first root d = d := by
  rw [Sort.siftDown, dif_pos h]
theorem sd_eq {hi first root : Nat} {d : Array Nat} (h : 2 * root + 1 < hi) : Sort.siftDown ltN hi first root d = if (!ltN d[first + root]! d[first + chOf hi first root d]!) = true then d else Sort.siftDown ltN hi first (chOf hi first root d) (Sort.swp d (first + root) (first + chOf hi first root d)) := by
  rw [Sort.siftDown, dif_neg (by omega)]
  unfold chOf
  rw [show first + (2 * root + 1) = first + 2 * root + 1 by omega, show first + 2 * root + 1 + 1 = first + 2 * root + 2 by omega]
  by_cases h2 : (decide (2 * root + 1 + 1 < hi) && ltN d[first + 2 * root + 1]! d[first + 2 * root + 2]!) = true
  · have h3 : 2 * root + 2 < hi := by simp at h2; omega
    rw [if_pos h2, if_pos h2]
    by_cases h4 : (!ltN d[first + root]! d[first + (2 * root + 2)]!) = true
    · rw [if_pos h4, if_pos h4]
    · rw [if_neg h4, if_neg h4, dif_pos h3]
  · rw [if_neg h2, if_neg h2, show first + 2 * root + 1 = first + (2 * root + 1) by omega]

set_option maxRecDepth 100000 in
set_option maxHeartbeats 4000000 in
theorem sift_any (c lo hi first : Nat) (hfn : first + hi ≤ n) (hl : lo ≤ n) (hn : n ≤ 1000000000) (H : Rw w0 blk off n d W) :
    Calls Try.prog 61 #[.slice (some ⟨blk, off, none⟩) n c, .int .i64 lo, .int .i64 hi, .int .i64 first] W fun e w' => e = .returned (.tuple #[]) ∧ Hid (Rw w0 blk off n (Sort.siftDown ltN hi first lo d) w') := by
  have H0 := Lib.hid H
  clear H
  go_enter Try.func61, Try.ntmps61
  go_wp2_with fail
  go_loopw [8] (fun sr wr => ∃ (r : Nat) (dk : Array Nat), sr = .int .i64 r ∧ r ≤ n ∧ Hid (Rw w0 blk off n dk wr) ∧ Hid (Sort.siftDown ltN hi first r dk = Sort.siftDown ltN hi first lo d)) (fun sr _ => n - (intOf sr).toNat)
  case atStart => exact ⟨lo, d, rfl, hl, H0, rfl⟩
  case round =>
    obtain ⟨r, dk, rfl, hr, H1, E1⟩ := hrel
    clear H0
    by_cases hge : hi ≤ 2 * r + 1
    · go_wp2_with fail
      go_end0
      exact ⟨rfl, H1.out.cast ((sd_end hge).symm.trans E1.out)⟩
    · have hlt : 2 * r + 1 < hi := by omega
      have HC := Lib.hid (ch_lt (first := first) (d := dk) hlt)
      have HE := Lib.hid ((sd_eq (first := first) (d := dk) hlt).symm.trans E1.out)
      obtain ⟨G, hG, hc, hf⟩ := H1.out.fam
      have HG := Lib.hid hG
      clear hG
      go_upto_region 3 with (fail)
      go_cut [36] (fun sc wx => sc = .bool (decide (2 * r + 1 + 1 < hi) && ltN (G (first + 2 * r + 1)) (G (first + 2 * r + 2))) ∧ Hid (Rw w0 blk off n dk wx))
      case first =>
        by_cases hij : 2 * r + 1 + 1 < hi
        · have hd : decide (2 * (r : Int) + 1 + 1 < (hi : Int)) = true := by simp; omega
          have hd2 : decide (2 * r + 1 + 1 < hi) = true := by simpa using hij
          go_quiet ((go_at_call 56; refine quietS (less_any _ _ _)))
          go_wp2_with fail
          go_meet
          exact ⟨by rw [hd2, Bool.true_and], H1.out.drewN _⟩
        · have hd : decide (2 * (r : Int) + 1 + 1 < (hi : Int)) = false := by simp; omega
          have hd2 : decide (2 * r + 1 + 1 < hi) = false := by simpa using hij
          go_quiet (fail)
          go_wp2_with fail
          go_meet
          exact ⟨by rw [hd2, Bool.false_and], H1.out.drewN _⟩
      case rest =>
        obtain ⟨rfl, H2⟩ := hcut
        clear H1 E1 hc hf
        cases hb : (decide (2 * r + 1 + 1 < hi) && ltN (G (first + 2 * r + 1)) (G (first + 2 * r + 2)))
        · have ec : chOf hi first r dk = 2 * r + 1 := by unfold chOf; rw [← HG.out, ← HG.out, hb]; rfl
          have HE := Lib.hid (ec ▸ HE.out)
          rw [show first + (2 * r + 1) = first + 2 * r + 1 by omega] at HE
          clear ec HC hb HG
          obtain ⟨G, hG, hc, hf⟩ := H2.out.fam
          have HG := Lib.hid hG
          clear hG
          cases hl : ltN (G (first + r)) (G (first + 2 * r + 1))
          · go_wp2_with fail
            go_quiet ((go_at_call 56; refine quietS (less_any _ _ _)))
            go_wp2_with fail
            first | (refine bodyPost_ret (results_none rfl _ _ _) rfl ?_) | go_end0
            refine ⟨rfl, (H2.out.drewN _).cast ?_⟩
            rw [← HE.out, if_pos (by rw [← HG.out, ← HG.out, hl]; rfl)]
          · have HE2 := Lib.hid (show Sort.siftDown ltN hi first (2 * r + 1) (Sort.swp dk (first + r) (first + 2 * r + 1)) = Sort.siftDown ltN hi first lo d by rw [← HE.out, if_neg (by rw [← HG.out, ← HG.out, hl]; simp)])
            clear HE
            go_wp2_with fail
            go_quiet ((go_at_call 56; refine quietS (less_any _ _ _)))
            go_wp2_with fail
            obtain ⟨um, hm⟩ := (H2.out.drewN nq).mid (first + r) (first + 2 * r + 1) (by omega) (by omega) (.int .u32 (G (first + 2 * r + 1) : Int))
            go_region
            go_wp2_with fail
            go_roundw
            case rel => exact ⟨2 * r + 1, _, by go_num, by omega, (H2.out.drewN _).swap HG.out (first + r) (first + 2 * r + 1) (by omega) (by omega), HE2⟩
            case measure => simp [intOf]; omega
        · have ec : chOf hi first r dk = 2 * r + 2 := by unfold chOf; rw [← HG.out, ← HG.out, hb]; rfl
          have HE := Lib.hid (ec ▸ HE.out)
          rw [show first + (2 * r + 2) = first + 2 * r + 2 by omega] at HE
          have hc2 : 2 * r + 2 < hi := by simp at hb; omega
          clear ec HC hb HG
          obtain ⟨G, hG, hc, hf⟩ := H2.out.fam
          have HG := Lib.hid hG
          clear hG
          cases hl : ltN (G (first + r)) (G (first + 2 * r + 2))
          · go_wp2_with fail
            go_quiet ((go_at_call 56; refine quietS (less_any _ _ _)))
            go_wp2_with fail
            first | (refine bodyPost_ret (results_none rfl _ _ _) rfl ?_) | go_end0
            refine ⟨rfl, (H2.out.drewN _).cast ?_⟩
            rw [← HE.out, if_pos (by rw [← HG.out, ← HG.out, hl]; rfl)]
          · have HE2 := Lib.hid (show Sort.siftDown ltN hi first (2 * r + 2) (Sort.swp dk (first + r) (first + 2 * r + 2)) = Sort.siftDown ltN hi first lo d by rw [← HE.out, if_neg (by rw [← HG.out, ← HG.out, hl]; simp)])
            clear HE
            go_wp2_with fail
            go_quiet ((go_at_call 56; refine quietS (less_any _ _ _)))
            go_wp2_with fail
            obtain ⟨um, hm⟩ := (H2.out.drewN nq).mid (first + r) (first + 2 * r + 2) (by omega) (by omega) (.int .u32 (G (first + 2 * r + 2) : Int))
            go_region
            go_wp2_with fail
            go_roundw
            case rel => exact ⟨2 * r + 2, _, by go_num, by omega, (H2.out.drewN _).swap HG.out (first + r) (first + 2 * r + 2) (by omega) (by omega), HE2⟩
            case measure => simp [intOf]; omega

theorem sift_size (hi first r : Nat) (d : Array Nat) : (Sort.siftDown ltN hi first r d).size = d.size := by
  induction hk : hi - r using Nat.strongRecOn generalizing r d with
  | ind k ih =>
    subst hk
    by_cases h : hi ≤ 2 * r + 1
    · rw [sd_end h]
    · have hc := ch_lt (first := first) (d := d) (Nat.lt_of_not_le h)
      rw [sd_eq (by omega)]
      split
      · rfl
      · rw [ih _ (by omega) _ _ rfl, Sort.size_swp]

end Go.Proofs.Ytefodmbaknedkaa

namespace Go.Proofs.Ytefodmbaknedkaa
open Go.RowKit

variable {w0 W : World} {blk off n : Nat} {d : Array Nat}
set_option maxRecDepth 100000 in
set_option maxHeartbeats 4000000 in
theorem heap_any (c a b : Nat) (hab : a + 12 < b) (hbn : b ≤ n) (hn : n ≤ 1000000000) (H : Rw w0 blk off n d W) :
    Calls Try.prog 51 #[.slice (some ⟨blk, off, none⟩) n c, .int .i64 a, .int .i64 b] W fun e w' => e = .returned (.tuple #[]) ∧ Hid (Rw w0 blk off n (Sort.heapSort ltN d a b) w') := by
  have H0 := Lib.hid H
  clear H
  obtain ⟨h, hh⟩ : ∃ h, b = a + h := ⟨b - a, by omega⟩
  obtain ⟨m, hm⟩ : ∃ m, m = (h - 1) / 2 := ⟨_, rfl⟩
  have HS := Lib.hid (show Sort.heapSort ltN d a b = Sort.heapPop ltN a h (Sort.heapBuild ltN h a (m + 1) d) by rw [hm]; unfold Sort.heapSort; rw [hh, Nat.add_sub_cancel_left])
  rw [HS.out]
  clear HS
  have hh1 : b ≤ a + h := by omega
  have hh2 : a + h ≤ b := by omega
  clear hh
  have SH := Lib.hid (fun lo W dk (h2 : lo ≤ n) (h3 : Rw w0 blk off n dk W) => by
    have := sift_any c lo h a (by omega) h2 hn h3
    rwa [show ((h : Nat) : Int) = (b : Int) - (a : Int) by omega] at this)
  have SI := Lib.hid (fun lo hi W dk (h1 : a + hi ≤ n) (h2 : lo ≤ n) (h3 : Rw w0 blk off n dk W) => sift_any c lo hi a h1 h2 hn h3)
  go_enter Try.func51, Try.ntmps51
  go_wp2_with fail
  go_loopw [9] (fun s9 wr => ∃ (k : Nat) (dk : Array Nat), s9 = .int .i64 ((k : Int) - 1) ∧ k ≤ m + 1 ∧ Hid (Rw w0 blk off n dk wr) ∧ Hid (Sort.heapBuild ltN h a k dk = Sort.heapBuild ltN h a (m + 1) d)) (fun s9 _ => (intOf s9 + 1).toNat)
  case atStart => exact ⟨m + 1, d, by congr 1; omega, Nat.le_refl _, H0, rfl⟩
  case round =>
    obtain ⟨k, dk, rfl, hk, H1, E1⟩ := hrel
    clear H0
    cases k with
    | zero =>
      rw [show ((0 : Nat) : Int) - 1 = -1 from rfl]
      go_wp2_with fail
      go_loopw [10] (fun s10 wr => ∃ (k : Nat) (dj : Array Nat), s10 = .int .i64 ((k : Int) - 1) ∧ k ≤ h ∧ Hid (Rw w0 blk off n dj wr) ∧ Hid (Sort.heapPop ltN a k dj = Sort.heapPop ltN a h dk)) (fun s10 _ => (intOf s10 + 1).toNat)
      case atStart => exact ⟨h, dk, by congr 1; omega, Nat.le_refl _, H1, rfl⟩
      case round =>
        obtain ⟨k, dj, rfl, hk, H2, E2⟩ := hrel
        clear H1
        cases k with
        | zero =>
          go_wp2_with fail
          go_end0
          exact ⟨rfl, H2.out.cast (E2.out.trans (congrArg (Sort.heapPop ltN a h) E1.out))⟩
        | succ k =>
          have ek : ((k + 1 : Nat) : Int) - 1 = (k : Int) := by omega
          rw [ek]
          clear ek
          obtain ⟨G, hG, hc, hf⟩ := H2.out.fam
          have HG := Lib.hid hG
          clear hG
          obtain ⟨um, hm⟩ := H2.out.mid a (a + k) (by omega) (by omega) (.int .u32 (G (a + k) : Int))
          go_wp2_with fail
          go_region
          have H3 := Lib.hid (H2.out.swap HG.out a (a + k) (by omega) (by omega)).drew
          clear hm hc hf HG H2
          generalize ((wr.setCell _ _).setCell _ _).drew = w3 at *
          have S3 := Lib.hid (SI.out 0 k w3 _ (by omega) (by omega) H3.out)
          clear H3
          go_wp2_with fail
          refine S3.out.mono ?_
          rintro e w4 ⟨rfl, H4⟩
          clear S3
          go_wp2_with fail
          go_roundw
          case rel => exact ⟨k, _, rfl, by omega, H4, E2⟩
          case measure => simp [intOf]
    | succ k =>
      have ek : ((k + 1 : Nat) : Int) - 1 = (k : Int) := by omega
      rw [ek]
      clear ek
      have S3 := Lib.hid (SH.out k wr dk (by omega) H1.out)
      clear H1
      go_wp2_with fail
      refine S3.out.mono ?_
      rintro e w4 ⟨rfl, H4⟩
      clear S3
      go_wp2_with fail
      go_roundw
      case rel => exact ⟨k, _, rfl, by omega, H4, E1⟩
      case measure => simp [intOf]
end Go.Proofs.Ytefodmbaknedkaa
