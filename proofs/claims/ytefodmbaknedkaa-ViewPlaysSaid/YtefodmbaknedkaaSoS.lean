/- slices.Sort of numbers: the recursion; the sort. -/
import Derived.Test.YtefodmbaknedkaaSoP
import Derived.Test.YtefodmbaknedkaaVe
import Derived.Test.YtefodmbaknedkaaVf
namespace Go.Proofs.Ytefodmbaknedkaa
open Go.RowKit

variable {w0 W : World} {blk off n : Nat} {d : Array Nat}
/-- The part from a to b is still to be sorted: then the part from A to B is. -/
structure Pd (w0 : World) (blk off n : Nat) (d0 : Array Nat) (A B a b : Nat) (d : Array Nat) (W : World) : Prop where
  row : Rw w0 blk off n d W
  bel : Sort.Below ltN a b d
  fin : ∀ D, Sort.PermIn a b d D → Sort.SortedIn ltN a b D → Sort.PermIn A B d0 D ∧ Sort.SortedIn ltN A B D
variable {d0 : Array Nat} {A B a b : Nat}
theorem Pd.perm (h : Pd w0 blk off n d0 A B a b d W) (hb : b ≤ n) {D : Array Nat} {W' : World} (hp : Sort.PermIn a b d D) (hr : Rw w0 blk off n D W') : Pd w0 blk off n d0 A B a b D W' :=
  ⟨hr, h.bel.perm (by rw [h.row.sz]; exact hb) hp, fun E h1 h2 => h.fin E (Sort.permIn_trans _ _ _ _ _ hp h1) h2⟩
theorem Pd.drewN (h : Pd w0 blk off n d0 A B a b d W) (q : Nat) : Pd w0 blk off n d0 A B a b d (W.drewN q) := ⟨h.row.drewN q, h.bel, h.fin⟩
theorem Pd.done (h : Pd w0 blk off n d0 A B a b d W) {D : Array Nat} {W' : World} (hp : Sort.PermIn a b d D) (hs : Sort.SortedIn ltN a b D) (hr : Rw w0 blk off n D W') :
    ∃ D, Sort.PermIn A B d0 D ∧ Sort.SortedIn ltN A B D ∧ Hid (Rw w0 blk off n D W') := ⟨D, (h.fin D hp hs).1, (h.fin D hp hs).2, hr⟩
theorem Pd.eq (h : Pd w0 blk off n d0 A B a b d W) (hb : b ≤ n) {p m : Nat} {D : Array Nat} {W' : World} (ha : 0 < a) (hp1 : a ≤ p) (hp2 : p < b) (hn : ltN d[a - 1]! d[p]! = false)
    (hx : Sort.partitionEqual ltN d a b p = (m, D)) (hr : Rw w0 blk off n D W') : a < m ∧ m ≤ b ∧ Hid (Pd w0 blk off n d0 A B m b D W') := by
  obtain ⟨h1, h2, _, h3, h4⟩ := Sort.round_eq swoN (Sort.partitionEqual_holds ltN) ha hp1 hp2 (by rw [h.row.sz]; exact hb) h.bel hn hx
  exact ⟨h1, h2, hr, h3, fun E e1 e2 => h.fin E (h4 E e1 e2).1 (h4 E e1 e2).2⟩
theorem Pd.part (h : Pd w0 blk off n d0 A B a b d W) (hb : b ≤ n) {p m : Nat} {ap : Bool} {D : Array Nat} (hp1 : a ≤ p) (hp2 : p < b)
    (hx : Sort.partition ltN d a b p = (m, ap, D)) : a ≤ m ∧ m < b ∧ Hid (Sort.Below ltN a m D ∧ Sort.Below ltN (m + 1) b D ∧
      (∀ L W'', Sort.PermIn a m D L → Sort.SortedIn ltN a m L → Rw w0 blk off n L W'' → Pd w0 blk off n d0 A B (m + 1) b L W'') ∧
      (∀ L W'', Sort.PermIn (m + 1) b D L → Sort.SortedIn ltN (m + 1) b L → Rw w0 blk off n L W'' → Pd w0 blk off n d0 A B a m L W'')) := by
  obtain ⟨h1, h2, _, h3, h4, h5, h6⟩ := Sort.round_part swoN (Sort.partition_holds ltN) hp1 hp2 (by rw [h.row.sz]; exact hb) h.bel hx
  exact ⟨h1, h2, h3, h4, fun L W'' l1 l2 l3 => ⟨l3, (h5 L l1 l2).1, fun E e1 e2 => h.fin E ((h5 L l1 l2).2 E e1 e2).1 ((h5 L l1 l2).2 E e1 e2).2⟩,
    fun L W'' l1 l2 l3 => ⟨l3, (h6 L l1 l2).1, fun E e1 e2 => h.fin E ((h6 L l1 l2).2 E e1 e2).1 ((h6 L l1 l2).2 E e1 e2).2⟩⟩

/-- What is known of pdqsort's callees, at this row. -/
structure Fs (w0 : World) (blk off n c : Nat) : Prop where
  ins : ∀ (a b : Nat) (d : Array Nat) (W : World), a ≤ b → b ≤ n → Rw w0 blk off n d W → Calls Try.prog 50 #[.slice (some ⟨blk, off, none⟩) n c, .int .i64 a, .int .i64 b] W fun e w' => e = .returned (.tuple #[]) ∧ Rw w0 blk off n (Sort.insertionSort ltN d a b) w'
  heap : ∀ (a b : Nat) (d : Array Nat) (W : World), a + 12 < b → b ≤ n → Rw w0 blk off n d W → Calls Try.prog 51 #[.slice (some ⟨blk, off, none⟩) n c, .int .i64 a, .int .i64 b] W fun e w' => e = .returned (.tuple #[]) ∧ Hid (Rw w0 blk off n (Sort.heapSort ltN d a b) w')
  brk : ∀ (a b : Nat) (d : Array Nat) (W : World), a + 12 < b → b ≤ n → Rw w0 blk off n d W → Calls Try.prog 52 #[.slice (some ⟨blk, off, none⟩) n c, .int .i64 a, .int .i64 b] W fun e w' => ∃ D : Array Nat, Sort.PermIn a b d D ∧ e = .returned (.tuple #[]) ∧ Hid (Rw w0 blk off n D w')
  piv : ∀ (a b : Nat) (d : Array Nat) (W : World), a + 12 < b → b ≤ n → Rw w0 blk off n d W → Calls Try.prog 53 #[.slice (some ⟨blk, off, none⟩) n c, .int .i64 a, .int .i64 b] W fun e w' => ∃ p h : Nat, a ≤ p ∧ p < b ∧ e = .returned (.tuple #[.int .i64 p, .int .i64 h]) ∧ Hid (Rw w0 blk off n d w')
  rev : ∀ (a b : Nat) (d : Array Nat) (W : World), a < b → b ≤ n → Rw w0 blk off n d W → Calls Try.prog 54 #[.slice (some ⟨blk, off, none⟩) n c, .int .i64 a, .int .i64 b] W fun e w' => e = .returned (.tuple #[]) ∧ Hid (Rw w0 blk off n (Sort.reverseRange d a b) w')
  par : ∀ (a b : Nat) (d : Array Nat) (W : World), a < b → b ≤ n → Rw w0 blk off n d W → Calls Try.prog 55 #[.slice (some ⟨blk, off, none⟩) n c, .int .i64 a, .int .i64 b] W fun e w' => ∃ (r : Bool) (D : Array Nat), Sort.partialInsertionSort ltN d a b = (D, r) ∧ e = .returned (.bool r) ∧ Hid (Rw w0 blk off n D w')
  peq : ∀ (a b p : Nat) (d : Array Nat) (W : World), a ≤ p → p < b → b ≤ n → Rw w0 blk off n d W → Calls Try.prog 57 #[.slice (some ⟨blk, off, none⟩) n c, .int .i64 a, .int .i64 b, .int .i64 p] W fun e w' => ∃ (m : Nat) (D : Array Nat), Sort.partitionEqual ltN d a b p = (m, D) ∧ e = .returned (.int .i64 m) ∧ Hid (Rw w0 blk off n D w')
  prt : ∀ (a b p : Nat) (d : Array Nat) (W : World), a ≤ p → p < b → b ≤ n → Rw w0 blk off n d W → Calls Try.prog 58 #[.slice (some ⟨blk, off, none⟩) n c, .int .i64 a, .int .i64 b, .int .i64 p] W fun e w' => ∃ (m : Nat) (ap : Bool) (D : Array Nat), Sort.partition ltN d a b p = (m, ap, D) ∧ e = .returned (.tuple #[.int .i64 m, .bool ap]) ∧ Hid (Rw w0 blk off n D w')
theorem fs_any (w0 : World) (blk off n c : Nat) (hn : n ≤ 1000000000) : Fs w0 blk off n c where
  ins a b _ _ h1 h2 h3 := insert_any c a b h1 h2 hn h3
  heap a b _ _ h1 h2 h3 := heap_any c a b h1 h2 hn h3
  brk a b _ _ h1 h2 h3 := break_any c a b h1 h2 hn h3
  piv a b _ _ h1 h2 h3 := pivot_any c a b h1 h2 hn h3
  rev a b _ _ h1 h2 h3 := reverse_any c a b h1 h2 hn h3
  par a b _ _ h1 h2 h3 := partial_any c a b h1 h2 hn h3
  peq a b p _ _ h1 h2 h3 h4 := parteq_any c a b p h1 h2 h3 hn h4
  prt a b p _ _ h1 h2 h3 h4 := part_any c a b p h1 h2 h3 hn h4

set_option maxRecDepth 100000 in
set_option maxHeartbeats 8000000 in
theorem pdq_any (c : Nat) (hn : n ≤ 1000000000) (FS : Hid (Fs w0 blk off n c)) (k : Nat) : ∀ (a b l : Nat) (d : Array Nat) (W : World), b - a < k → a ≤ b → b ≤ n → l ≤ 100 → Sort.Below ltN a b d → Rw w0 blk off n d W →
    Calls Try.prog 44 #[.slice (some ⟨blk, off, none⟩) n c, .int .i64 a, .int .i64 b, .int .i64 l] W fun e w' => e = .returned (.tuple #[]) ∧ ∃ D, Sort.PermIn a b d D ∧ Sort.SortedIn ltN a b D ∧ Hid (Rw w0 blk off n D w') := by
  induction k with
  | zero => exact fun a b l d W h => absurd h (Nat.not_lt_zero _)
  | succ k ih =>
    intro A B l0 d W hk hAB hBn hl0 hbel H
    have IH := Lib.hid ih
    have H0 := Lib.hid (show Pd w0 blk off n d A B A B d W from ⟨H, hbel, fun D h1 h2 => ⟨h1, h2⟩⟩)
    clear ih hbel H
    go_enter Try.func44, Try.ntmps44
    go_wp2_with fail
    go_loopw [1, 2, 3, 8, 9] (fun s1 s2 s3 s8 s9 wr => ∃ (a b l : Nat) (wb wp : Bool) (dk : Array Nat), s1 = .int .i64 a ∧ s2 = .int .i64 b ∧ s3 = .int .i64 l ∧ s8 = .bool wb ∧ s9 = .bool wp ∧ A ≤ a ∧ a ≤ b ∧ b ≤ B ∧ l ≤ 100 ∧ Hid (Pd w0 blk off n d A B a b dk wr)) (fun s1 s2 _ _ _ _ => (intOf s2).toNat - (intOf s1).toNat)
    case atStart => exact ⟨A, B, l0, true, true, d, rfl, rfl, rfl, rfl, rfl, by omega, by omega, by omega, hl0, H0⟩
    case round =>
      obtain ⟨a, b, l, wb, wp, dk, rfl, rfl, rfl, rfl, rfl, ha, hab, hb', hl, H1⟩ := hrel
      clear H0
      have hbn : b ≤ n := by omega
      by_cases h12 : b ≤ a + 12
      · have C := Lib.hid (FS.out.ins a b dk wr hab hbn H1.out.row)
        have hi : (b : Int) - (a : Int) ≤ 12 := by omega
        go_wp2_with fail
        refine C.out.mono ?_
        rintro e w1 ⟨rfl, hr⟩
        have hr := Lib.hid hr
        go_wp2_with fail
        refine bodyPost_ret (results_none rfl _ _ _) rfl ?_
        have := Sort.insertionSort_holds (lt := ltN) swoN dk a b hab (by rw [H1.out.row.sz]; exact hbn)
        exact ⟨rfl, H1.out.done this.1 this.2 hr.out⟩
      · have hi : ¬ (b : Int) - (a : Int) ≤ 12 := by omega
        cases l with
        | zero =>
          have C := Lib.hid (FS.out.heap a b dk wr (by omega) hbn H1.out.row)
          go_wp2_with fail
          refine C.out.mono ?_
          rintro e w1 ⟨rfl, hr⟩
          go_wp2_with fail
          refine bodyPost_ret (results_none rfl _ _ _) rfl ?_
          have := Sort.heapSort_holds (lt := ltN) swoN dk a b hab (by rw [H1.out.row.sz]; exact hbn)
          exact ⟨rfl, H1.out.done this.1 this.2 hr.out⟩
        | succ l =>
          go_upto_if 35 with (fail)
          go_cut [3] (fun s3 wx => ∃ (l' : Nat) (D : Array Nat), s3 = .int .i64 l' ∧ l' ≤ 100 ∧ Hid (Pd w0 blk off n d A B a b D wx))
          case first =>
            cases wb
            · have C := Lib.hid (FS.out.brk a b dk wr (by omega) hbn H1.out.row)
              go_wp2_with fail
              refine C.out.mono ?_
              rintro e w1 ⟨D, hp, rfl, hr⟩
              have HP := Lib.hid hp
              clear hp C
              go_wp2_with fail
              go_meet
              exact ⟨l, D, by go_num, by omega, H1.out.perm hbn HP.out hr.out⟩
            · go_wp2_with fail
              go_meet
              exact ⟨l + 1, dk, by go_num, by omega, H1⟩
          case rest =>
            obtain ⟨l', D, rfl, hl', H2⟩ := hcut
            clear H1 hl
            have C := Lib.hid (FS.out.piv a b D wc (by omega) hbn H2.out.row)
            go_wp2_with fail
            refine C.out.mono ?_
            rintro e w1 ⟨p, h, hp1, hp2, rfl, hr⟩
            have H3 := Lib.hid (H2.out.perm hbn (Sort.permIn_refl _ _ _) hr.out)
            clear C H2 hr
            go_upto_if 50 with (fail)
            go_cut [11, 12] (fun s11 s12 wx => ∃ (p h : Nat) (D : Array Nat), s11 = .int .i64 p ∧ s12 = .int .i64 h ∧ a ≤ p ∧ p < b ∧ Hid (Pd w0 blk off n d A B a b D wx))
            case first =>
              by_cases hh : h = 2
              · subst hh
                have C := Lib.hid (FS.out.rev a b D w1 (by omega) hbn H3.out.row)
                go_wp2_with fail
                refine C.out.mono ?_
                rintro e w2 ⟨rfl, hr⟩
                clear C
                go_wp2_with fail
                go_meet
                exact ⟨b - 1 - (p - a), 1, _, by congr 1; omega, rfl, by omega, by omega, H3.out.perm hbn (Sort.reverseRange_holds _ _ _ hab (by rw [H3.out.row.sz]; exact hbn)) hr.out⟩
              · have hh1 : ((h : Int) == 2) = false := by simp; omega
                go_wp2_with fail
                go_meet
                exact ⟨p, h, D, rfl, rfl, hp1, hp2, H3⟩
            case rest =>
              clear hp1 hp2 H3
              obtain ⟨p, h, D, rfl, rfl, hp1, hp2, H3⟩ := hcut
              go_upto_region 15 with (fail)
              go_cut [68] (fun s68 wx => ∃ c : Bool, s68 = .bool c ∧ Hid (Pd w0 blk off n d A B a b D wx))
              case first =>
                cases wb
                · go_wp2_with fail
                  go_meet
                  exact ⟨_, rfl, H3⟩
                · cases wp
                  · go_wp2_with fail
                    go_meet
                    exact ⟨_, rfl, H3⟩
                  · go_wp2_with fail
                    go_meet
                    exact ⟨_, rfl, H3⟩
              case rest =>
                clear H3
                obtain ⟨cc, rfl, H3⟩ := hcut
                go_upto_if 68 with (fail)
                go_cut [12] (fun _ wx => ∃ (D : Array Nat), Hid (Pd w0 blk off n d A B a b D wx))
                case first =>
                  cases cc
                  · go_wp2_with fail
                    go_meet
                    exact ⟨D, H3⟩
                  · have C := Lib.hid (FS.out.par a b D wc (by omega) hbn H3.out.row)
                    have PH := Lib.hid (Sort.partialInsertionSort_holds (lt := ltN) swoN D a b (by omega) (by rw [H3.out.row.sz]; exact hbn) H3.out.bel)
                    go_wp2_with fail
                    refine C.out.mono ?_
                    rintro e w2 ⟨r, D', hd', rfl, hr⟩
                    have PH := Lib.hid (show Sort.PermIn a b D D' ∧ (r = true → Sort.SortedIn ltN a b D') by have := PH.out; rw [hd'] at this; exact this)
                    clear C hd'
                    cases r
                    · go_wp2_with fail
                      go_meet
                      exact ⟨D', H3.out.perm hbn PH.out.1 hr.out⟩
                    · go_wp2_with fail
                      refine bodyPost_ret (results_none rfl _ _ _) rfl ?_
                      exact ⟨rfl, H3.out.done PH.out.1 (PH.out.2 (by simp)) hr.out⟩
                case rest =>
                  clear H3
                  obtain ⟨D, H3⟩ := hcut
                  obtain ⟨G, hG, hc, hf⟩ := H3.out.row.fam
                  have HG := Lib.hid hG
                  clear hG
                  go_upto_region 17 with (fail)
                  go_cut [87] (fun s87 wx => s87 = .bool (decide (0 < a) && !ltN (G (a - 1)) (G p)) ∧ Hid (Pd w0 blk off n d A B a b D wx))
                  case first =>
                    by_cases ha0 : 0 < a
                    · have hd : decide ((0 : Int) < (a : Int)) = true := by simpa using ha0
                      have hd2 : decide (0 < a) = true := by simpa using ha0
                      go_quiet ((go_at_call 56; refine quietS (less_any _ _ _)))
                      go_wp2_with fail
                      go_meet
                      exact ⟨by rw [hd2, Bool.true_and], H3.out.drewN _⟩
                    · have hd : decide ((0 : Int) < (a : Int)) = false := by simpa using ha0
                      have hd2 : decide (0 < a) = false := by simpa using ha0
                      go_quiet (fail)
                      go_wp2_with fail
                      go_meet
                      exact ⟨by rw [hd2, Bool.false_and], H3.out.drewN _⟩
                  case rest =>
                    obtain ⟨rfl, H4⟩ := hcut
                    clear H3 hc hf
                    cases hb : (decide (0 < a) && !ltN (G (a - 1)) (G p))
                    · have C := Lib.hid (FS.out.prt a b p D wc hp1 hp2 hbn H4.out.row)
                      have PT := Lib.hid (fun m ap D' hx => H4.out.part hbn (m := m) (ap := ap) (D := D') hp1 hp2 hx)
                      go_wp2_with fail
                      refine C.out.mono ?_
                      rintro e w2 ⟨m, ap, D', hx, rfl, hr⟩
                      obtain ⟨hm1, hm2, HQ⟩ := PT.out m ap D' hx
                      clear C PT hx
                      by_cases hlr : m - a < b - m
                      · have hlr1 : (m : Int) - (a : Int) < (b : Int) - (m : Int) := by omega
                        have R := Lib.hid (IH.out a m l' D' w2 (by omega) hm1 (by omega) hl' HQ.out.1 hr.out)
                        go_wp2_with fail
                        refine R.out.mono ?_
                        rintro e w3 ⟨rfl, L, l1, l2, l3⟩
                        have H5 := Lib.hid (HQ.out.2.2.1 L w3 l1 l2 l3.out)
                        clear R HQ hr l1 l2 l3 H4
                        go_wp2_with fail
                        go_roundw
                        case rel => exact ⟨m + 1, b, l', _, ap, L, by go_num, rfl, rfl, rfl, rfl, by omega, by omega, hb', hl', H5⟩
                        case measure => simp [intOf]; omega
                      · have hlr1 : ¬ (m : Int) - (a : Int) < (b : Int) - (m : Int) := by omega
                        have R := IH.out (m + 1) b l' D' w2 (by omega) (by omega) hbn hl' HQ.out.2.1 hr.out
                        rw [show ((m + 1 : Nat) : Int) = (m : Int) + 1 by omega] at R
                        have R := Lib.hid R
                        go_wp2_with fail
                        refine R.out.mono ?_
                        rintro e w3 ⟨rfl, L, l1, l2, l3⟩
                        have H5 := Lib.hid (HQ.out.2.2.2 L w3 l1 l2 l3.out)
                        clear R HQ hr l1 l2 l3 H4
                        go_wp2_with fail
                        go_roundw
                        case rel => exact ⟨a, m, l', _, ap, L, rfl, rfl, rfl, rfl, rfl, by omega, by omega, by omega, hl', H5⟩
                        case measure => simp [intOf]; omega
                    · have hba : 0 < a ∧ ltN D[a - 1]! D[p]! = false := by rw [← HG.out, ← HG.out]; simpa using hb
                      have C := Lib.hid (FS.out.peq a b p D wc hp1 hp2 hbn H4.out.row)
                      have PE := Lib.hid (fun m D' w' hx hr => H4.out.eq hbn (m := m) (D := D') (W' := w') hba.1 hp1 hp2 hba.2 hx hr)
                      clear hba
                      go_wp2_with fail
                      refine C.out.mono ?_
                      rintro e w2 ⟨m, D', hx, rfl, hr⟩
                      obtain ⟨hm1, hm2, H5⟩ := PE.out m D' w2 hx hr.out
                      clear C PE hx hr H4
                      go_wp2_with fail
                      go_roundw
                      case rel => exact ⟨m, b, l', wb, wp, D', rfl, rfl, rfl, rfl, rfl, by omega, by omega, hb', hl', H5⟩
                      case measure => simp [intOf]; omega
end Go.Proofs.Ytefodmbaknedkaa
