/- slices.Sort of numbers: the two partitions. -/
import Derived.Test.YtefodmbaknedkaaSoA
import Derived.Deep.Cut
import Derived.Deep.DeepCutAuto
namespace Go.Proofs.Ytefodmbaknedkaa
open Go.RowKit

variable {w0 W : World} {blk off n : Nat} {d : Array Nat}
theorem up_go {p : Nat → Bool} {D : Array Nat} {J i : Nat} (h : (decide (i ≤ J) && p D[i]!) = true) : Sort.scanUp p D J i = Sort.scanUp p D J (i + 1) := by
  rw [Sort.scanUp, if_pos h]
theorem up_stop {p : Nat → Bool} {D : Array Nat} {J i : Nat} (h : (decide (i ≤ J) && p D[i]!) = false) : Sort.scanUp p D J i = i := by
  rw [Sort.scanUp, if_neg (by rw [h]; simp)]
theorem down_go {p : Nat → Bool} {D : Array Nat} {i j : Nat} (h : (decide (i ≤ j) && p D[j]!) = true) (hj : 1 ≤ j) : Sort.scanDown p D i j = Sort.scanDown p D i (j - 1) := by
  obtain ⟨j, rfl⟩ : ∃ k, j = k + 1 := ⟨j - 1, by omega⟩
  rw [Sort.scanDown, if_pos h]
  rfl
theorem down_stop {p : Nat → Bool} {D : Array Nat} {i j : Nat} (h : (decide (i ≤ j) && p D[j]!) = false) : Sort.scanDown p D i j = j := by
  cases j with
  | zero => rfl
  | succ j => rw [Sort.scanDown, if_neg (by rw [h]; simp)]

theorem pl_go {a i j i2 j2 : Nat} {D : Array Nat} (h1 : i2 = Sort.scanUp (fun x => ltN x D[a]!) D j i) (h2 : j2 = Sort.scanDown (fun x => !ltN x D[a]!) D i2 j) (h : ¬ j2 < i2) :
    Sort.partLoop ltN a i j D = Sort.partLoop ltN a (i2 + 1) (j2 - 1) (Sort.swp D i2 j2) := by
  subst h1
  subst h2
  conv => lhs; rw [Sort.partLoop_eq]
  exact if_neg h
theorem pl_end {a i j i2 j2 : Nat} {D : Array Nat} {L0 : Nat × Array Nat} (e : Sort.partLoop ltN a i j D = L0) (h1 : i2 = Sort.scanUp (fun x => ltN x D[a]!) D j i) (h2 : j2 = Sort.scanDown (fun x => !ltN x D[a]!) D i2 j) (h : j2 < i2) :
    L0 = (j2, D) := by
  subst h1
  subst h2
  rw [← e, Sort.partLoop_eq]
  exact if_pos h
theorem pe_go {a i j i2 j2 : Nat} {D : Array Nat} (h1 : i2 = Sort.scanUp (fun x => !ltN D[a]! x) D j i) (h2 : j2 = Sort.scanDown (fun x => ltN D[a]! x) D i2 j) (h : ¬ j2 < i2) :
    Sort.partEqLoop ltN a i j D = Sort.partEqLoop ltN a (i2 + 1) (j2 - 1) (Sort.swp D i2 j2) := by
  subst h1
  subst h2
  conv => lhs; rw [Sort.partEqLoop_eq]
  exact if_neg h
theorem pe_end {a b i j i2 j2 pivot : Nat} {D : Array Nat} (e : Sort.partEqLoop ltN a i j D = Sort.partEqLoop ltN a (a + 1) (b - 1) (Sort.swp d a pivot)) (h1 : i2 = Sort.scanUp (fun x => !ltN D[a]! x) D j i) (h2 : j2 = Sort.scanDown (fun x => ltN D[a]! x) D i2 j) (h : j2 < i2) :
    Sort.partitionEqual ltN d a b pivot = (i2, D) := by
  subst h1
  subst h2
  unfold Sort.partitionEqual
  rw [← e, Sort.partEqLoop_eq]
  exact if_pos h
theorem part_done {a b pivot i j : Nat} {D1 : Array Nat} (hD : D1 = Sort.swp d a pivot) (h1 : i = Sort.scanUp (fun x => ltN x D1[a]!) D1 (b - 1) (a + 1)) (h2 : j = Sort.scanDown (fun x => !ltN x D1[a]!) D1 i (b - 1)) (h : j < i) :
    Sort.partition ltN d a b pivot = (j, true, Sort.swp D1 j a) := by
  subst h1
  subst h2
  subst hD
  exact if_pos h
theorem part_more {a b pivot i j m : Nat} {D1 D : Array Nat} (hD : D1 = Sort.swp d a pivot) (h1 : i = Sort.scanUp (fun x => ltN x D1[a]!) D1 (b - 1) (a + 1)) (h2 : j = Sort.scanDown (fun x => !ltN x D1[a]!) D1 i (b - 1)) (h : ¬ j < i)
    (hm : Sort.partLoop ltN a (i + 1) (j - 1) (Sort.swp D1 i j) = (m, D)) : Sort.partition ltN d a b pivot = (m, false, Sort.swp D m a) := by
  subst h1
  subst h2
  subst hD
  refine (if_neg h).trans ?_
  show (_, false, _) = _
  rw [hm]

set_option maxRecDepth 100000 in
set_option maxHeartbeats 4000000 in
theorem parteq_any (c a b pivot : Nat) (hap : a ≤ pivot) (hpb : pivot < b) (hbn : b ≤ n) (hn : n ≤ 1000000000) (H : Rw w0 blk off n d W) :
    Calls Try.prog 57 #[.slice (some ⟨blk, off, none⟩) n c, .int .i64 a, .int .i64 b, .int .i64 pivot] W fun e w' => ∃ (m : Nat) (D : Array Nat), Sort.partitionEqual ltN d a b pivot = (m, D) ∧ e = .returned (.int .i64 m) ∧ Hid (Rw w0 blk off n D w') := by
  have H := Lib.hid H
  go_enter Try.func57, Try.ntmps57
  obtain ⟨G, hG, hc, hf⟩ := H.out.fam
  have HG := Lib.hid hG
  clear hG
  obtain ⟨um, hm⟩ := H.out.mid (a) (pivot) (by omega) (by omega) (.int .u32 (G (pivot) : Int))
  have b1 : a < n := by omega
  have b2 : pivot < n := by omega
  go_wp2_with fail
  go_region
  clear b1 b2 hm
  go_wp2_with fail
  have H0 := Lib.hid (H.out.swap HG.out (a) (pivot) (by omega) (by omega)).drew
  clear H hc hf HG
  go_loopw [9, 10] (fun si sj wr => ∃ (i j : Nat) (dk : Array Nat), si = .int .i64 i ∧ sj = .int .i64 j ∧ a + 1 ≤ i ∧ i ≤ b + 1 ∧ a ≤ j ∧ j < b ∧ Hid (Rw w0 blk off n dk wr) ∧ Hid (Sort.partEqLoop ltN a i j dk = Sort.partEqLoop ltN a (a + 1) (b - 1) (Sort.swp d a pivot))) (fun si sj _ => (intOf sj).toNat + 1 - (intOf si).toNat)
  case atStart => exact ⟨a + 1, b - 1, _, by go_num, by go_num, by omega, by omega, by omega, by omega, H0, rfl⟩
  case round =>
    obtain ⟨i0, j0, dk, rfl, rfl, hi1, hi2, hj1, hj2, H1, Ek⟩ := hrel
    clear H0
    go_wp2_with fail
    go_loopw [9] (fun si wr => ∃ i : Nat, si = .int .i64 i ∧ i0 ≤ i ∧ i ≤ b + 1 ∧ Hid (Rw w0 blk off n dk wr) ∧ Hid (Sort.scanUp (fun x => !ltN dk[a]! x) dk j0 i = Sort.scanUp (fun x => !ltN dk[a]! x) dk j0 i0)) (fun si _ => b + 1 - (intOf si).toNat)
    case atStart => exact ⟨i0, by first | rfl | go_num, by omega, by omega, H1, rfl⟩
    case round =>
      obtain ⟨i, rfl, hloi, hhii, H1p, Ei⟩ := hrel
      clear H1
      obtain ⟨G, hG, hc, hf⟩ := H1p.out.fam
      have HG := Lib.hid hG
      clear hG
      go_upto_region 3 with (fail)
      go_cut [43] (fun sc wx => sc = .bool (decide (i ≤ j0) && !ltN (G a) (G i)) ∧ Hid (Rw w0 blk off n dk wx))
      case first =>
        by_cases hij : i ≤ j0
        · have hd : decide ((i : Int) ≤ (j0 : Int)) = true := by simp; omega
          have hd2 : decide (i ≤ j0) = true := by simpa using hij
          go_quiet ((go_at_call 56; refine quietS (less_any _ _ _)))
          go_wp2_with fail
          go_meet
          exact ⟨by rw [hd2, Bool.true_and], H1p.out.drewN _⟩
        · have hd : decide ((i : Int) ≤ (j0 : Int)) = false := by simp; omega
          have hd2 : decide (i ≤ j0) = false := by simpa using hij
          go_quiet (fail)
          go_wp2_with fail
          go_meet
          exact ⟨by rw [hd2, Bool.false_and], H1p.out.drewN _⟩
      case rest =>
        obtain ⟨rfl, H1q⟩ := hcut
        clear H1p hc hf
        cases hb : (decide (i ≤ j0) && !ltN (G a) (G i))
        · have Si := Lib.hid ((up_stop (p := (fun x => !ltN dk[a]! x)) (D := dk) (by simpa only [HG.out] using hb)).symm.trans Ei.out)
          have Ni : Hid (i ≤ j0 → (!ltN (G a) (G i)) = false) := fun h => by simpa [h] using hb
          clear hb Ei HG
          go_wp2_with fail
          go_loopw [10] (fun si wr => ∃ j : Nat, si = .int .i64 j ∧ a ≤ j ∧ j ≤ j0 ∧ Hid (Rw w0 blk off n dk wr) ∧ Hid (Sort.scanDown (fun x => ltN dk[a]! x) dk i j = Sort.scanDown (fun x => ltN dk[a]! x) dk i j0)) (fun si _ => (intOf si).toNat)
          case atStart => exact ⟨j0, by first | rfl | go_num, by omega, by omega, H1q, rfl⟩
          case round =>
            obtain ⟨j, rfl, hloj, hhij, H1qp, Ej⟩ := hrel
            clear H1q
            obtain ⟨G, hG, hc, hf⟩ := H1qp.out.fam
            have HG := Lib.hid hG
            clear hG
            go_upto_region 5 with (fail)
            go_cut [59] (fun sc wx => sc = .bool (decide (i ≤ j) && ltN (G a) (G j)) ∧ Hid (Rw w0 blk off n dk wx))
            case first =>
              by_cases hij : i ≤ j
              · have hd : decide ((i : Int) ≤ (j : Int)) = true := by simp; omega
                have hd2 : decide (i ≤ j) = true := by simpa using hij
                go_quiet ((go_at_call 56; refine quietS (less_any _ _ _)))
                go_wp2_with fail
                go_meet
                exact ⟨by rw [hd2, Bool.true_and], H1qp.out.drewN _⟩
              · have hd : decide ((i : Int) ≤ (j : Int)) = false := by simp; omega
                have hd2 : decide (i ≤ j) = false := by simpa using hij
                go_quiet (fail)
                go_wp2_with fail
                go_meet
                exact ⟨by rw [hd2, Bool.false_and], H1qp.out.drewN _⟩
            case rest =>
              obtain ⟨rfl, H1qq⟩ := hcut
              clear H1qp hc hf
              cases hb : (decide (i ≤ j) && ltN (G a) (G j))
              · have Sj := Lib.hid ((down_stop (p := (fun x => ltN dk[a]! x)) (D := dk) (by simpa only [HG.out] using hb)).symm.trans Ej.out)
                have Nj : Hid (i ≤ j → (ltN (G a) (G j)) = false) := fun h => by simpa [h] using hb
                clear hb Ej HG
                by_cases hgt : j < i
                · go_wp2_with fail
                  go_wp2_with fail
                  go_ret
                  exact ⟨i, dk, pe_end Ek.out Si.out Sj.out hgt, rfl, H1qq⟩
                · skip
                  obtain ⟨G, hG, hc, hf⟩ := H1qq.out.fam
                  have HG := Lib.hid hG
                  clear hG
                  obtain ⟨um, hm⟩ := H1qq.out.mid (i) (j) (by omega) (by omega) (.int .u32 (G (j) : Int))
                  have b1 : i < n := by omega
                  have b2 : j < n := by omega
                  go_wp2_with fail
                  go_region
                  clear b1 b2 hm
                  go_wp2_with fail
                  go_roundw
                  case rel => exact ⟨i + 1, j - 1, _, by go_num, by go_num, by omega, by omega, by omega, by omega, (H1qq.out.swap HG.out (i) (j) (by omega) (by omega)).drew, (pe_go Si.out Sj.out hgt).symm.trans Ek.out⟩
                  case measure => simp [intOf]; omega
              · have hle : i ≤ j := by simp at hb; exact hb.1
                have Fj := Lib.hid ((down_go (p := (fun x => ltN dk[a]! x)) (D := dk) (by simpa only [HG.out] using hb) (by omega)).symm.trans Ej.out)
                clear hb Ej HG
                go_wp2_with fail
                go_roundw
                case rel => exact ⟨j - 1, by go_num, by omega, by omega, H1qq, Fj⟩
                case measure => simp [intOf]; omega
        · have hle : i ≤ j0 := by simp at hb; exact hb.1
          have Fi := Lib.hid ((up_go (p := (fun x => !ltN dk[a]! x)) (D := dk) (by simpa only [HG.out] using hb)).symm.trans Ei.out)
          clear hb Ei HG
          go_wp2_with fail
          go_roundw
          case rel => exact ⟨i + 1, by go_num, by omega, by omega, H1q, Fi⟩
          case measure => simp [intOf]; omega

set_option maxRecDepth 100000 in
set_option maxHeartbeats 4000000 in
theorem part_any (c a b pivot : Nat) (hap : a ≤ pivot) (hpb : pivot < b) (hbn : b ≤ n) (hn : n ≤ 1000000000) (H : Rw w0 blk off n d W) :
    Calls Try.prog 58 #[.slice (some ⟨blk, off, none⟩) n c, .int .i64 a, .int .i64 b, .int .i64 pivot] W fun e w' => ∃ (m : Nat) (ap : Bool) (D : Array Nat), Sort.partition ltN d a b pivot = (m, ap, D) ∧ e = .returned (.tuple #[.int .i64 m, .bool ap]) ∧ Hid (Rw w0 blk off n D w') := by
  have H := Lib.hid H
  go_enter Try.func58, Try.ntmps58
  obtain ⟨G, hG, hc, hf⟩ := H.out.fam
  have HG := Lib.hid hG
  clear hG
  obtain ⟨um, hm⟩ := H.out.mid (a) (pivot) (by omega) (by omega) (.int .u32 (G (pivot) : Int))
  have b1 : a < n := by omega
  have b2 : pivot < n := by omega
  go_wp2_with fail
  go_region
  clear b1 b2 hm
  go_wp2_with fail
  obtain ⟨D1, hD1⟩ : ∃ D1, D1 = Sort.swp d a pivot := ⟨_, rfl⟩
  have H0 := Lib.hid ((H.out.swap HG.out (a) (pivot) (by omega) (by omega)).drew.cast hD1.symm)
  have HD := Lib.hid hD1
  clear H hc hf HG hD1
  go_loopw [10] (fun si wr => ∃ i : Nat, si = .int .i64 i ∧ (a + 1) ≤ i ∧ i ≤ b + 1 ∧ Hid (Rw w0 blk off n D1 wr) ∧ Hid (Sort.scanUp (fun x => ltN x D1[a]!) D1 (b - 1) i = Sort.scanUp (fun x => ltN x D1[a]!) D1 (b - 1) (a + 1))) (fun si _ => b + 1 - (intOf si).toNat)
  case atStart => exact ⟨(a + 1), by first | rfl | go_num, by omega, by omega, H0, rfl⟩
  case round =>
    obtain ⟨i, rfl, hloi, hhii, H0p, Ei⟩ := hrel
    skip
    obtain ⟨G, hG, hc, hf⟩ := H0p.out.fam
    have HG := Lib.hid hG
    clear hG
    go_upto_region 3 with (fail)
    go_cut [43] (fun sc wx => sc = .bool (decide (i ≤ (b - 1)) && ltN (G i) (G a)) ∧ Hid (Rw w0 blk off n D1 wx))
    case first =>
      by_cases hij : i ≤ (b - 1)
      · have hd : decide ((i : Int) ≤ ((b - 1) : Int)) = true := by simp; omega
        have hd2 : decide (i ≤ (b - 1)) = true := by simpa using hij
        go_quiet ((go_at_call 56; refine quietS (less_any _ _ _)))
        go_wp2_with fail
        go_meet
        exact ⟨by rw [hd2, Bool.true_and], H0p.out.drewN _⟩
      · have hd : decide ((i : Int) ≤ ((b - 1) : Int)) = false := by simp; omega
        have hd2 : decide (i ≤ (b - 1)) = false := by simpa using hij
        go_quiet (fail)
        go_wp2_with fail
        go_meet
        exact ⟨by rw [hd2, Bool.false_and], H0p.out.drewN _⟩
    case rest =>
      obtain ⟨rfl, H0q⟩ := hcut
      clear H0p hc hf
      cases hb : (decide (i ≤ (b - 1)) && ltN (G i) (G a))
      · have Si := Lib.hid ((up_stop (p := (fun x => ltN x D1[a]!)) (D := D1) (by simpa only [HG.out] using hb)).symm.trans Ei.out)
        have Ni : Hid (i ≤ (b - 1) → (ltN (G i) (G a)) = false) := fun h => by simpa [h] using hb
        clear hb Ei HG
        go_wp2_with fail
        go_loopw [11] (fun si wr => ∃ j : Nat, si = .int .i64 j ∧ a ≤ j ∧ j ≤ (b - 1) ∧ Hid (Rw w0 blk off n D1 wr) ∧ Hid (Sort.scanDown (fun x => !ltN x D1[a]!) D1 i j = Sort.scanDown (fun x => !ltN x D1[a]!) D1 i (b - 1))) (fun si _ => (intOf si).toNat)
        case atStart => exact ⟨(b - 1), by first | rfl | go_num, by omega, by omega, H0q, rfl⟩
        case round =>
          obtain ⟨j, rfl, hloj, hhij, H0qp, Ej⟩ := hrel
          clear H0q
          obtain ⟨G, hG, hc, hf⟩ := H0qp.out.fam
          have HG := Lib.hid hG
          clear hG
          go_upto_region 5 with (fail)
          go_cut [60] (fun sc wx => sc = .bool (decide (i ≤ j) && !ltN (G j) (G a)) ∧ Hid (Rw w0 blk off n D1 wx))
          case first =>
            by_cases hij : i ≤ j
            · have hd : decide ((i : Int) ≤ (j : Int)) = true := by simp; omega
              have hd2 : decide (i ≤ j) = true := by simpa using hij
              go_quiet ((go_at_call 56; refine quietS (less_any _ _ _)))
              go_wp2_with fail
              go_meet
              exact ⟨by rw [hd2, Bool.true_and], H0qp.out.drewN _⟩
            · have hd : decide ((i : Int) ≤ (j : Int)) = false := by simp; omega
              have hd2 : decide (i ≤ j) = false := by simpa using hij
              go_quiet (fail)
              go_wp2_with fail
              go_meet
              exact ⟨by rw [hd2, Bool.false_and], H0qp.out.drewN _⟩
          case rest =>
            obtain ⟨rfl, H0qq⟩ := hcut
            clear H0qp hc hf
            cases hb : (decide (i ≤ j) && !ltN (G j) (G a))
            · have Sj := Lib.hid ((down_stop (p := (fun x => !ltN x D1[a]!)) (D := D1) (by simpa only [HG.out] using hb)).symm.trans Ej.out)
              have Nj : Hid (i ≤ j → (!ltN (G j) (G a)) = false) := fun h => by simpa [h] using hb
              clear hb Ej HG
              by_cases hgt : j < i
              · skip
                obtain ⟨G, hG, hc, hf⟩ := H0qq.out.fam
                have HG := Lib.hid hG
                clear hG
                obtain ⟨um, hm⟩ := H0qq.out.mid (j) (a) (by omega) (by omega) (.int .u32 (G (a) : Int))
                have b1 : j < n := by omega
                have b2 : a < n := by omega
                go_wp2_with fail
                go_region
                clear b1 b2 hm
                go_wp2_with fail
                go_ret2
                exact ⟨j, true, _, part_done HD.out Si.out Sj.out hgt, rfl, (H0qq.out.swap HG.out (j) (a) (by omega) (by omega)).drew⟩
              · have PM := Lib.hid (fun m D h => part_more (m := m) (D := D) HD.out Si.out Sj.out hgt h)
                obtain ⟨G, hG, hc, hf⟩ := H0qq.out.fam
                have HG := Lib.hid hG
                clear hG
                obtain ⟨um, hm⟩ := H0qq.out.mid (i) (j) (by omega) (by omega) (.int .u32 (G (j) : Int))
                have b1 : i < n := by omega
                have b2 : j < n := by omega
                go_wp2_with fail
                go_region
                clear b1 b2 hm
                go_wp2_with fail
                have H5 := Lib.hid (H0qq.out.swap HG.out (i) (j) (by omega) (by omega)).drew
                obtain ⟨L0, hL0⟩ : ∃ L0, L0 = Sort.partLoop ltN a (i + 1) (j - 1) (Sort.swp D1 i j) := ⟨_, rfl⟩
                have PM := Lib.hid (fun m D h => PM.out m D (hL0.symm.trans h))
                have hL0 := Lib.hid hL0
                clear H0qq hc hf HG Ni Nj Si Sj
                go_loopw [10, 11] (fun si sj wr => ∃ (i j : Nat) (dk : Array Nat), si = .int .i64 i ∧ sj = .int .i64 j ∧ a + 1 ≤ i ∧ i ≤ b + 1 ∧ a ≤ j ∧ j < b ∧ Hid (Rw w0 blk off n dk wr) ∧ Hid (Sort.partLoop ltN a i j dk = L0)) (fun si sj _ => (intOf sj).toNat + 1 - (intOf si).toNat)
                case atStart => exact ⟨i + 1, j - 1, _, by go_num, by go_num, by omega, by omega, by omega, by omega, H5, Lib.hid hL0.out.symm⟩
                case round =>
                  obtain ⟨i0, j0, dk, rfl, rfl, hi1, hi2, hj1, hj2, H1, Ek⟩ := hrel
                  skip
                  go_wp2_with fail
                  go_loopw [10] (fun si wr => ∃ i : Nat, si = .int .i64 i ∧ i0 ≤ i ∧ i ≤ b + 1 ∧ Hid (Rw w0 blk off n dk wr) ∧ Hid (Sort.scanUp (fun x => ltN x dk[a]!) dk j0 i = Sort.scanUp (fun x => ltN x dk[a]!) dk j0 i0)) (fun si _ => b + 1 - (intOf si).toNat)
                  case atStart => exact ⟨i0, by first | rfl | go_num, by omega, by omega, H1, rfl⟩
                  case round =>
                    obtain ⟨i, rfl, hloi, hhii, H1p, Ei⟩ := hrel
                    clear H1
                    obtain ⟨G, hG, hc, hf⟩ := H1p.out.fam
                    have HG := Lib.hid hG
                    clear hG
                    go_upto_region 13 with (fail)
                    go_cut [112] (fun sc wx => sc = .bool (decide (i ≤ j0) && ltN (G i) (G a)) ∧ Hid (Rw w0 blk off n dk wx))
                    case first =>
                      by_cases hij : i ≤ j0
                      · have hd : decide ((i : Int) ≤ (j0 : Int)) = true := by simp; omega
                        have hd2 : decide (i ≤ j0) = true := by simpa using hij
                        go_quiet ((go_at_call 56; refine quietS (less_any _ _ _)))
                        go_wp2_with fail
                        go_meet
                        exact ⟨by rw [hd2, Bool.true_and], H1p.out.drewN _⟩
                      · have hd : decide ((i : Int) ≤ (j0 : Int)) = false := by simp; omega
                        have hd2 : decide (i ≤ j0) = false := by simpa using hij
                        go_quiet (fail)
                        go_wp2_with fail
                        go_meet
                        exact ⟨by rw [hd2, Bool.false_and], H1p.out.drewN _⟩
                    case rest =>
                      obtain ⟨rfl, H1q⟩ := hcut
                      clear H1p hc hf
                      cases hb : (decide (i ≤ j0) && ltN (G i) (G a))
                      · have Si := Lib.hid ((up_stop (p := (fun x => ltN x dk[a]!)) (D := dk) (by simpa only [HG.out] using hb)).symm.trans Ei.out)
                        have Ni : Hid (i ≤ j0 → (ltN (G i) (G a)) = false) := fun h => by simpa [h] using hb
                        clear hb Ei HG
                        go_wp2_with fail
                        go_loopw [11] (fun si wr => ∃ j : Nat, si = .int .i64 j ∧ a ≤ j ∧ j ≤ j0 ∧ Hid (Rw w0 blk off n dk wr) ∧ Hid (Sort.scanDown (fun x => !ltN x dk[a]!) dk i j = Sort.scanDown (fun x => !ltN x dk[a]!) dk i j0)) (fun si _ => (intOf si).toNat)
                        case atStart => exact ⟨j0, by first | rfl | go_num, by omega, by omega, H1q, rfl⟩
                        case round =>
                          obtain ⟨j, rfl, hloj, hhij, H1qp, Ej⟩ := hrel
                          clear H1q
                          obtain ⟨G, hG, hc, hf⟩ := H1qp.out.fam
                          have HG := Lib.hid hG
                          clear hG
                          go_upto_region 15 with (fail)
                          go_cut [129] (fun sc wx => sc = .bool (decide (i ≤ j) && !ltN (G j) (G a)) ∧ Hid (Rw w0 blk off n dk wx))
                          case first =>
                            by_cases hij : i ≤ j
                            · have hd : decide ((i : Int) ≤ (j : Int)) = true := by simp; omega
                              have hd2 : decide (i ≤ j) = true := by simpa using hij
                              go_quiet ((go_at_call 56; refine quietS (less_any _ _ _)))
                              go_wp2_with fail
                              go_meet
                              exact ⟨by rw [hd2, Bool.true_and], H1qp.out.drewN _⟩
                            · have hd : decide ((i : Int) ≤ (j : Int)) = false := by simp; omega
                              have hd2 : decide (i ≤ j) = false := by simpa using hij
                              go_quiet (fail)
                              go_wp2_with fail
                              go_meet
                              exact ⟨by rw [hd2, Bool.false_and], H1qp.out.drewN _⟩
                          case rest =>
                            obtain ⟨rfl, H1qq⟩ := hcut
                            clear H1qp hc hf
                            cases hb : (decide (i ≤ j) && !ltN (G j) (G a))
                            · have Sj := Lib.hid ((down_stop (p := (fun x => !ltN x dk[a]!)) (D := dk) (by simpa only [HG.out] using hb)).symm.trans Ej.out)
                              have Nj : Hid (i ≤ j → (!ltN (G j) (G a)) = false) := fun h => by simpa [h] using hb
                              clear hb Ej HG
                              by_cases hgt : j < i
                              · go_wp2_with fail
                                obtain ⟨G, hG, hc, hf⟩ := H1qq.out.fam
                                have HG := Lib.hid hG
                                clear hG
                                obtain ⟨um, hm⟩ := H1qq.out.mid (j) (a) (by omega) (by omega) (.int .u32 (G (a) : Int))
                                have b1 : j < n := by omega
                                have b2 : a < n := by omega
                                go_wp2_with fail
                                go_region
                                clear b1 b2 hm
                                go_wp2_with fail
                                go_ret2
                                exact ⟨j, false, _, PM.out _ _ (pl_end Ek.out Si.out Sj.out hgt), rfl, (H1qq.out.swap HG.out (j) (a) (by omega) (by omega)).drew⟩
                              · skip
                                obtain ⟨G, hG, hc, hf⟩ := H1qq.out.fam
                                have HG := Lib.hid hG
                                clear hG
                                obtain ⟨um, hm⟩ := H1qq.out.mid (i) (j) (by omega) (by omega) (.int .u32 (G (j) : Int))
                                have b1 : i < n := by omega
                                have b2 : j < n := by omega
                                go_wp2_with fail
                                go_region
                                clear b1 b2 hm
                                go_wp2_with fail
                                go_roundw
                                case rel => exact ⟨i + 1, j - 1, _, by go_num, by go_num, by omega, by omega, by omega, by omega, (H1qq.out.swap HG.out (i) (j) (by omega) (by omega)).drew, (pl_go Si.out Sj.out hgt).symm.trans Ek.out⟩
                                case measure => simp [intOf]; omega
                            · have hle : i ≤ j := by simp at hb; exact hb.1
                              have Fj := Lib.hid ((down_go (p := (fun x => !ltN x dk[a]!)) (D := dk) (by simpa only [HG.out] using hb) (by omega)).symm.trans Ej.out)
                              clear hb Ej HG
                              go_wp2_with fail
                              go_roundw
                              case rel => exact ⟨j - 1, by go_num, by omega, by omega, H1qq, Fj⟩
                              case measure => simp [intOf]; omega
                      · have hle : i ≤ j0 := by simp at hb; exact hb.1
                        have Fi := Lib.hid ((up_go (p := (fun x => ltN x dk[a]!)) (D := dk) (by simpa only [HG.out] using hb)).symm.trans Ei.out)
                        clear hb Ei HG
                        go_wp2_with fail
                        go_roundw
                        case rel => exact ⟨i + 1, by go_num, by omega, by omega, H1q, Fi⟩
                        case measure => simp [intOf]; omega
            · have hle : i ≤ j := by simp at hb; exact hb.1
              have Fj := Lib.hid ((down_go (p := (fun x => !ltN x D1[a]!)) (D := D1) (by simpa only [HG.out] using hb) (by omega)).symm.trans Ej.out)
              clear hb Ej HG
              go_wp2_with fail
              go_roundw
              case rel => exact ⟨j - 1, by go_num, by omega, by omega, H0qq, Fj⟩
              case measure => simp [intOf]; omega
      · have hle : i ≤ (b - 1) := by simp at hb; exact hb.1
        have Fi := Lib.hid ((up_go (p := (fun x => ltN x D1[a]!)) (D := D1) (by simpa only [HG.out] using hb)).symm.trans Ei.out)
        clear hb Ei HG
        go_wp2_with fail
        go_roundw
        case rel => exact ⟨i + 1, by go_num, by omega, by omega, H0q, Fi⟩
        case measure => simp [intOf]; omega
end Go.Proofs.Ytefodmbaknedkaa
