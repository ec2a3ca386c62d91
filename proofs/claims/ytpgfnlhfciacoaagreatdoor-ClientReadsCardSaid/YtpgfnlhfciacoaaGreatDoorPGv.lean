import Derived.Deep.QuietTactic
import Derived.BigQuiet
import Derived.Laws.StructEq
import Derived.LoopNIn
import Derived.Test.YtpgfnlhfciacoaaGreatDoorRows
import Derived.ProofKit
import Derived.LaidMore
import Derived.LaidSub
import Derived.OpenShut
import Derived.Stop.Joined
import Derived.Stop.LaidErr
import Derived.Test.YtpgfnlhfciacoaaGreatDoorPGb
import Derived.Deep.SlicePairs
set_option maxRecDepth 100000
set_option maxHeartbeats 4000000
open Go.Lib renaming hid → Hi
namespace Go.Proofs.YtpgfnlhfciacoaaGreatDoor
open Go.RowKit
structure CI where
 tag : List UInt8
 kind : Int
 mbox : List UInt8
 set : List R
 items : Int
 mode : Int
 silent : Bool
 flags : Int
 data : List UInt8
def sameC (a b : CI) : Bool :=
 a.tag == b.tag && (a.kind == b.kind && (a.mbox == b.mbox && (a.set == b.set && (a.items == b.items && (a.mode == b.mode && (a.silent == b.silent && (a.flags == b.flags && a.data == b.data)))))))
theorem eqR_snoc {l m : List R} {k : Nat} (h : l.take k = m.take k) (h1 : k < l.length) (h2 : k < m.length) (he : l[k] = m[k]) : l.take (k + 1) = m.take (k + 1) := by
 rw [List.take_succ_eq_append_getElem h1, List.take_succ_eq_append_getElem h2, h, he]
theorem r_at {w : World} {A : Option Addr} {l : List R} (h : SlAt encR 2 w A l) {j : Nat} (hj : j < l.length) :
 ∃ b off, A = some ⟨b, off, none⟩ ∧ b < w.heap.size ∧ w.cell? ⟨b, off + j * 2, none⟩ = some (.int .u32 (l[j].1 : Int)) ∧ w.cell? ⟨b, off + j * 2 + 1, none⟩ = some (.int .u32 (l[j].2 : Int)) := by
 obtain ⟨b, off, hA, hb, hc⟩ := h.at_ hj
 exact ⟨b, off, hA, hb, hc 0 _ rfl, hc 1 _ rfl⟩
theorem drewN_below7 (w : World) (n : Nat) : Below w.heap.size w (w.drewN n) := ⟨rfl, rfl, rfl, Nat.le_refl _, fun _ _ => rfl⟩
theorem equalR7_any (A A2 : Option Addr) (c d n n2 : Nat) (l m : List R) (hn : l.length = n) (hn2 : m.length = n2) (hl : n ≤ 1000000000) (hm : n2 ≤ 1000000000) (w : World) (h1 : SlAt encR 2 w A l) (h2 : SlAt encR 2 w A2 m) :
 Calls Tryz.prog 121 #[.slice A n c, .slice A2 n2 d] w fun e w' => e = .returned (.bool (l == m)) ∧ Below w.heap.size w w' := by
 by_cases hlen : n = n2
 · subst hlen
   have H1 := Hi h1
   have H2 := Hi h2
   have HN := Hi hn
   have HN2 := Hi hn2
   obtain ⟨t, ht⟩ : ∃ t, (l == m) = t := ⟨_, rfl⟩
   rw [ht]
   have HT := Hi ht
   clear h1 h2 ht hn hn2
   go_enter Tryz.func121, Tryz.ntmps121
   go_wp2_with fail
   go_loopw [13] (fun i wr => ∃ k : Nat, k ≤ n ∧ i = .int .i64 (k : Int) ∧ Hid (l.take k = m.take k) ∧ Below w.heap.size w wr) (fun i _ => n - (intOf i).toNat)
   case atStart => exact ⟨0, Nat.zero_le _, rfl, rfl, Below.refl _ _⟩
   case round =>
    obtain ⟨k, hk, rfl, hE, hB⟩ := hrel
    by_cases hlt : k < n
    · obtain ⟨b, off, rfl, _, hc0, hc1⟩ := r_at (H1.out.below hB) (j := k) (by rw [HN.out]; exact hlt)
      obtain ⟨b2, off2, rfl, _, hd0, hd1⟩ := r_at (H2.out.below hB) (j := k) (by rw [HN2.out]; exact hlt)
      have hk0 : (0 : Int) ≤ (k : Int) := by omega
      have hk1 : (k : Int) < (n : Int) := by omega
      by_cases he : l[k]'(by rw [HN.out]; exact hlt) = m[k]'(by rw [HN2.out]; exact hlt)
      · have HS := Hi (eqR_snoc hE.out (by rw [HN.out]; exact hlt) (by rw [HN2.out]; exact hlt) he)
        rw [← he] at hd0 hd1
        clear he
        generalize (l[k]'(by rw [HN.out]; exact hlt)).1 = x at *
        generalize (l[k]'(by rw [HN.out]; exact hlt)).2 = y at *
        go_wp2_with fail
        go_quiet (fail)
        go_wp2_with fail
        go_roundw
        case rel => exact ⟨k + 1, by omega, by go_num, HS.out, YA hB (drewN_below7 _ _)⟩
        case measure => simp [intOf]; omega
      · have HS := Hi (show t = false by rw [← HT.out]; exact beq_false_of_ne (fun e => by subst e; exact he rfl))
        have hne : ¬ ((l[k]'(by rw [HN.out]; exact hlt)).1 = (m[k]'(by rw [HN2.out]; exact hlt)).1 ∧ (l[k]'(by rw [HN.out]; exact hlt)).2 = (m[k]'(by rw [HN2.out]; exact hlt)).2) := fun e => he (Prod.ext e.1 e.2)
        clear he
        generalize (l[k]'(by rw [HN.out]; exact hlt)).1 = x at *
        generalize (l[k]'(by rw [HN.out]; exact hlt)).2 = y at *
        generalize (m[k]'(by rw [HN2.out]; exact hlt)).1 = x2 at *
        generalize (m[k]'(by rw [HN2.out]; exact hlt)).2 = y2 at *
        by_cases hx : x = x2
        · have hy : ¬ y = y2 := fun e => hne ⟨hx, e⟩
          subst hx
          have f2 : ((y : Int) == (y2 : Int)) = false := by simpa using (fun e : (y : Int) = y2 => hy (by omega))
          have f3 : ¬ ((y : Int) = (y2 : Int)) := fun e => hy (by omega)
          clear hne
          go_wp2_with fail
          go_quiet (fail)
          go_wp2_with fail
          go_ret
          exact ⟨YU HS.out.symm, YA hB (drewN_below7 _ _)⟩
        · have f2 : ((x : Int) == (x2 : Int)) = false := by simpa using (fun e : (x : Int) = x2 => hx (by omega))
          have f3 : ¬ ((x : Int) = (x2 : Int)) := fun e => hx (by omega)
          clear hne
          go_wp2_with fail
          go_quiet (fail)
          go_wp2_with fail
          go_ret
          exact ⟨YU HS.out.symm, YA hB (drewN_below7 _ _)⟩
    · obtain rfl : k = n := by omega
      have HS := Hi (show t = true by
       rw [← HT.out]
       have := hE.out
       rw [List.take_of_length_le (by rw [HN.out]; exact Nat.le_refl _), List.take_of_length_le (by rw [HN2.out]; exact Nat.le_refl _)] at this
       exact beq_iff_eq.2 this)
      go_wp2_with fail
      go_ret
      exact ⟨YU HS.out.symm, hB⟩
 · have hne : l ≠ m := fun e => hlen (by rw [← hn, ← hn2, e])
   rw [beq_false_of_ne hne]
   have hi : ¬ (n : Int) = (n2 : Int) := by omega
   clear h1 h2 hne hn hn2
   go_enter Tryz.func121, Tryz.ntmps121
   go_wp2
   go_ret
   exact ⟨rfl, Below.refl _ _⟩
theorem bytesEq7_any (B1 B2 : Nat) (A A2 : Option Addr) (c d n n2 : Nat) (l m : List UInt8) (hn : l.length = n) (hn2 : m.length = n2) (w : World) (h1 : ByAt B1 w A c l) (h2 : ByAt B2 w A2 d m) :
 Calls Tryz.prog 47 #[.slice A n c, .slice A2 n2 d] w fun e w' => e = .returned (.bool (l == m)) ∧ w = w' := by
 have k1 := convS B1 w A c n l h1 hn
 have k2 := convS B2 w A2 d n2 m h2 hn2
 clear h1 h2 hn hn2
 go_enter Tryz.func47, Tryz.ntmps47
 go_wp2_with fail
 go_ret
 exact ⟨rfl, rfl⟩
theorem psame_any (a b : CI) (A1 A2 A3 A4 : Option Addr) (n1 k1 n2 k2 n3 k3 n4 k4 : Nat) (e1 : a.set.length = n1) (e2 : a.data.length = n2) (e3 : b.set.length = n3) (e4 : b.data.length = n4) (l1 : n1 ≤ 1000000) (_l2 : n2 ≤ 1000000) (l3 : n3 ≤ 1000000) (_l4 : n4 ≤ 1000000) (w : World) (s1 : SlAt encR 2 w A1 a.set) (s2 : ByAt w.heap.size w A2 k2 a.data) (s3 : SlAt encR 2 w A3 b.set) (s4 : ByAt w.heap.size w A4 k4 b.data) :
 Calls Tryz.prog 79 #[.agg #[.string ⟨a.tag.toArray⟩, .int .i64 a.kind, .string ⟨a.mbox.toArray⟩, .slice A1 n1 k1, .int .i64 a.items, .int .i64 a.mode, .bool a.silent, .int .u8 a.flags, .slice A2 n2 k2], .agg #[.string ⟨b.tag.toArray⟩, .int .i64 b.kind, .string ⟨b.mbox.toArray⟩, .slice A3 n3 k3, .int .i64 b.items, .int .i64 b.mode, .bool b.silent, .int .u8 b.flags, .slice A4 n4 k4]] w fun e w' => e = .returned (.bool (sameC a b)) ∧ Below w.heap.size w w' := by
 have SE := Hi (fun W (hB : Below w.heap.size w W) => equalR7_any A1 A3 k1 k3 n1 n3 a.set b.set e1 e3 (by omega) (by omega) W (s1.below hB) (s3.below hB))
 have BE := Hi (fun W (hB : Below w.heap.size w W) => bytesEq7_any _ _ A2 A4 k2 k4 n2 n4 a.data b.data e2 e4 W (s2.below hB) (s4.below hB))
 have B0 := YA (YB w (.cells #[.string ⟨a.tag.toArray⟩, .int .i64 a.kind, .string ⟨a.mbox.toArray⟩, .slice A1 n1 k1, .int .i64 a.items, .int .i64 a.mode, .bool a.silent, .int .u8 a.flags, .slice A2 n2 k2] 26)) (YB _ (.cells #[.string ⟨b.tag.toArray⟩, .int .i64 b.kind, .string ⟨b.mbox.toArray⟩, .slice A3 n3 k3, .int .i64 b.items, .int .i64 b.mode, .bool b.silent, .int .u8 b.flags, .slice A4 n4 k4] 26))
 have ha := ((YB (w.alloc (.cells #[.string ⟨a.tag.toArray⟩, .int .i64 a.kind, .string ⟨a.mbox.toArray⟩, .slice A1 n1 k1, .int .i64 a.items, .int .i64 a.mode, .bool a.silent, .int .u8 a.flags, .slice A2 n2 k2] 26)) (.cells #[.string ⟨b.tag.toArray⟩, .int .i64 b.kind, .string ⟨b.mbox.toArray⟩, .slice A3 n3 k3, .int .i64 b.items, .int .i64 b.mode, .bool b.silent, .int .u8 b.flags, .slice A4 n4 k4] 26)).block w.heap.size (by simp)).trans (YD w (.cells #[.string ⟨a.tag.toArray⟩, .int .i64 a.kind, .string ⟨a.mbox.toArray⟩, .slice A1 n1 k1, .int .i64 a.items, .int .i64 a.mode, .bool a.silent, .int .u8 a.flags, .slice A2 n2 k2] 26))
 have hb := YD (w.alloc (.cells #[.string ⟨a.tag.toArray⟩, .int .i64 a.kind, .string ⟨a.mbox.toArray⟩, .slice A1 n1 k1, .int .i64 a.items, .int .i64 a.mode, .bool a.silent, .int .u8 a.flags, .slice A2 n2 k2] 26)) (.cells #[.string ⟨b.tag.toArray⟩, .int .i64 b.kind, .string ⟨b.mbox.toArray⟩, .slice A3 n3 k3, .int .i64 b.items, .int .i64 b.mode, .bool b.silent, .int .u8 b.flags, .slice A4 n4 k4] 26)
 rw [World.size_alloc] at hb
 have HA := Hi ha
 have HB := Hi hb
 have HB0 := Hi B0
 clear s1 s2 s3 s4 e1 e2 e3 e4 ha hb B0
 unfold sameC
 cases p0 : (a.tag == b.tag) with
 | false =>
   go_enter Tryz.func79, Tryz.ntmps79
   go_wp2_with fail
   go_ret
   exact ⟨by first | rfl | simp, HB0.out⟩
 | true =>
   cases p1 : (a.kind == b.kind) with
   | false =>
     go_enter Tryz.func79, Tryz.ntmps79
     go_wp2_with fail
     go_ret
     exact ⟨by first | rfl | simp, HB0.out⟩
   | true =>
     cases p2 : (a.mbox == b.mbox) with
     | false =>
       go_enter Tryz.func79, Tryz.ntmps79
       go_wp2_with fail
       go_ret
       exact ⟨by first | rfl | simp, HB0.out⟩
     | true =>
       cases p3 : (a.set == b.set) with
       | false =>
         go_enter Tryz.func79, Tryz.ntmps79
         go_wp2_with fail
         refine (SE.out _ HB0.out).mono ?_
         rintro e w1 ⟨rfl, h1⟩
         have HA1 := Hi ((h1.block w.heap.size (by simp; omega)).trans HA.out)
         have HB1 := Hi ((h1.block (w.heap.size + 1) (by simp)).trans HB.out)
         have HC1 := Hi (YA HB0.out h1)
         clear h1
         go_wp2_with fail
         go_ret
         exact ⟨by first | rfl | simp, HC1.out⟩
       | true =>
         cases p4 : (a.items == b.items) with
         | false =>
           go_enter Tryz.func79, Tryz.ntmps79
           go_wp2_with fail
           refine (SE.out _ HB0.out).mono ?_
           rintro e w1 ⟨rfl, h1⟩
           have HA1 := Hi ((h1.block w.heap.size (by simp; omega)).trans HA.out)
           have HB1 := Hi ((h1.block (w.heap.size + 1) (by simp)).trans HB.out)
           have HC1 := Hi (YA HB0.out h1)
           have x0 := cell_of_row _ _ 0 _ _ _ HA1.out
           have x1 := cell_of_row _ _ 1 _ _ _ HA1.out
           have x2 := cell_of_row _ _ 2 _ _ _ HA1.out
           have x3 := cell_of_row _ _ 3 _ _ _ HA1.out
           have x4 := cell_of_row _ _ 4 _ _ _ HA1.out
           have x5 := cell_of_row _ _ 5 _ _ _ HA1.out
           have x6 := cell_of_row _ _ 6 _ _ _ HA1.out
           have x7 := cell_of_row _ _ 7 _ _ _ HA1.out
           have x8 := cell_of_row _ _ 8 _ _ _ HA1.out
           have y0 := cell_of_row _ _ 0 _ _ _ HB1.out
           have y1 := cell_of_row _ _ 1 _ _ _ HB1.out
           have y2 := cell_of_row _ _ 2 _ _ _ HB1.out
           have y3 := cell_of_row _ _ 3 _ _ _ HB1.out
           have y4 := cell_of_row _ _ 4 _ _ _ HB1.out
           have y5 := cell_of_row _ _ 5 _ _ _ HB1.out
           have y6 := cell_of_row _ _ 6 _ _ _ HB1.out
           have y7 := cell_of_row _ _ 7 _ _ _ HB1.out
           have y8 := cell_of_row _ _ 8 _ _ _ HB1.out
           clear h1
           go_wp2_with fail
           go_ret
           exact ⟨by first | rfl | simp, HC1.out⟩
         | true =>
           cases p5 : (a.mode == b.mode) with
           | false =>
             go_enter Tryz.func79, Tryz.ntmps79
             go_wp2_with fail
             refine (SE.out _ HB0.out).mono ?_
             rintro e w1 ⟨rfl, h1⟩
             have HA1 := Hi ((h1.block w.heap.size (by simp; omega)).trans HA.out)
             have HB1 := Hi ((h1.block (w.heap.size + 1) (by simp)).trans HB.out)
             have HC1 := Hi (YA HB0.out h1)
             have x0 := cell_of_row _ _ 0 _ _ _ HA1.out
             have x1 := cell_of_row _ _ 1 _ _ _ HA1.out
             have x2 := cell_of_row _ _ 2 _ _ _ HA1.out
             have x3 := cell_of_row _ _ 3 _ _ _ HA1.out
             have x4 := cell_of_row _ _ 4 _ _ _ HA1.out
             have x5 := cell_of_row _ _ 5 _ _ _ HA1.out
             have x6 := cell_of_row _ _ 6 _ _ _ HA1.out
             have x7 := cell_of_row _ _ 7 _ _ _ HA1.out
             have x8 := cell_of_row _ _ 8 _ _ _ HA1.out
             have y0 := cell_of_row _ _ 0 _ _ _ HB1.out
             have y1 := cell_of_row _ _ 1 _ _ _ HB1.out
             have y2 := cell_of_row _ _ 2 _ _ _ HB1.out
             have y3 := cell_of_row _ _ 3 _ _ _ HB1.out
             have y4 := cell_of_row _ _ 4 _ _ _ HB1.out
             have y5 := cell_of_row _ _ 5 _ _ _ HB1.out
             have y6 := cell_of_row _ _ 6 _ _ _ HB1.out
             have y7 := cell_of_row _ _ 7 _ _ _ HB1.out
             have y8 := cell_of_row _ _ 8 _ _ _ HB1.out
             clear h1
             go_wp2_with fail
             go_ret
             exact ⟨by first | rfl | simp, HC1.out⟩
           | true =>
             cases p6 : (a.silent == b.silent) with
             | false =>
               go_enter Tryz.func79, Tryz.ntmps79
               go_wp2_with fail
               refine (SE.out _ HB0.out).mono ?_
               rintro e w1 ⟨rfl, h1⟩
               have HA1 := Hi ((h1.block w.heap.size (by simp; omega)).trans HA.out)
               have HB1 := Hi ((h1.block (w.heap.size + 1) (by simp)).trans HB.out)
               have HC1 := Hi (YA HB0.out h1)
               have x0 := cell_of_row _ _ 0 _ _ _ HA1.out
               have x1 := cell_of_row _ _ 1 _ _ _ HA1.out
               have x2 := cell_of_row _ _ 2 _ _ _ HA1.out
               have x3 := cell_of_row _ _ 3 _ _ _ HA1.out
               have x4 := cell_of_row _ _ 4 _ _ _ HA1.out
               have x5 := cell_of_row _ _ 5 _ _ _ HA1.out
               have x6 := cell_of_row _ _ 6 _ _ _ HA1.out
               have x7 := cell_of_row _ _ 7 _ _ _ HA1.out
               have x8 := cell_of_row _ _ 8 _ _ _ HA1.out
               have y0 := cell_of_row _ _ 0 _ _ _ HB1.out
               have y1 := cell_of_row _ _ 1 _ _ _ HB1.out
               have y2 := cell_of_row _ _ 2 _ _ _ HB1.out
               have y3 := cell_of_row _ _ 3 _ _ _ HB1.out
               have y4 := cell_of_row _ _ 4 _ _ _ HB1.out
               have y5 := cell_of_row _ _ 5 _ _ _ HB1.out
               have y6 := cell_of_row _ _ 6 _ _ _ HB1.out
               have y7 := cell_of_row _ _ 7 _ _ _ HB1.out
               have y8 := cell_of_row _ _ 8 _ _ _ HB1.out
               clear h1
               go_wp2_with fail
               go_ret
               exact ⟨by first | rfl | simp, HC1.out⟩
             | true =>
               cases p7 : (a.flags == b.flags) with
               | false =>
                 go_enter Tryz.func79, Tryz.ntmps79
                 go_wp2_with fail
                 refine (SE.out _ HB0.out).mono ?_
                 rintro e w1 ⟨rfl, h1⟩
                 have HA1 := Hi ((h1.block w.heap.size (by simp; omega)).trans HA.out)
                 have HB1 := Hi ((h1.block (w.heap.size + 1) (by simp)).trans HB.out)
                 have HC1 := Hi (YA HB0.out h1)
                 have x0 := cell_of_row _ _ 0 _ _ _ HA1.out
                 have x1 := cell_of_row _ _ 1 _ _ _ HA1.out
                 have x2 := cell_of_row _ _ 2 _ _ _ HA1.out
                 have x3 := cell_of_row _ _ 3 _ _ _ HA1.out
                 have x4 := cell_of_row _ _ 4 _ _ _ HA1.out
                 have x5 := cell_of_row _ _ 5 _ _ _ HA1.out
                 have x6 := cell_of_row _ _ 6 _ _ _ HA1.out
                 have x7 := cell_of_row _ _ 7 _ _ _ HA1.out
                 have x8 := cell_of_row _ _ 8 _ _ _ HA1.out
                 have y0 := cell_of_row _ _ 0 _ _ _ HB1.out
                 have y1 := cell_of_row _ _ 1 _ _ _ HB1.out
                 have y2 := cell_of_row _ _ 2 _ _ _ HB1.out
                 have y3 := cell_of_row _ _ 3 _ _ _ HB1.out
                 have y4 := cell_of_row _ _ 4 _ _ _ HB1.out
                 have y5 := cell_of_row _ _ 5 _ _ _ HB1.out
                 have y6 := cell_of_row _ _ 6 _ _ _ HB1.out
                 have y7 := cell_of_row _ _ 7 _ _ _ HB1.out
                 have y8 := cell_of_row _ _ 8 _ _ _ HB1.out
                 clear h1
                 go_wp2_with fail
                 go_ret
                 exact ⟨by first | rfl | simp, HC1.out⟩
               | true =>
                 go_enter Tryz.func79, Tryz.ntmps79
                 go_wp2_with fail
                 refine (SE.out _ HB0.out).mono ?_
                 rintro e w1 ⟨rfl, h1⟩
                 have HA1 := Hi ((h1.block w.heap.size (by simp; omega)).trans HA.out)
                 have HB1 := Hi ((h1.block (w.heap.size + 1) (by simp)).trans HB.out)
                 have HC1 := Hi (YA HB0.out h1)
                 have x0 := cell_of_row _ _ 0 _ _ _ HA1.out
                 have x1 := cell_of_row _ _ 1 _ _ _ HA1.out
                 have x2 := cell_of_row _ _ 2 _ _ _ HA1.out
                 have x3 := cell_of_row _ _ 3 _ _ _ HA1.out
                 have x4 := cell_of_row _ _ 4 _ _ _ HA1.out
                 have x5 := cell_of_row _ _ 5 _ _ _ HA1.out
                 have x6 := cell_of_row _ _ 6 _ _ _ HA1.out
                 have x7 := cell_of_row _ _ 7 _ _ _ HA1.out
                 have x8 := cell_of_row _ _ 8 _ _ _ HA1.out
                 have y0 := cell_of_row _ _ 0 _ _ _ HB1.out
                 have y1 := cell_of_row _ _ 1 _ _ _ HB1.out
                 have y2 := cell_of_row _ _ 2 _ _ _ HB1.out
                 have y3 := cell_of_row _ _ 3 _ _ _ HB1.out
                 have y4 := cell_of_row _ _ 4 _ _ _ HB1.out
                 have y5 := cell_of_row _ _ 5 _ _ _ HB1.out
                 have y6 := cell_of_row _ _ 6 _ _ _ HB1.out
                 have y7 := cell_of_row _ _ 7 _ _ _ HB1.out
                 have y8 := cell_of_row _ _ 8 _ _ _ HB1.out
                 clear h1
                 go_wp2_with fail
                 refine (BE.out _ HC1.out).mono ?_
                 rintro e w2 ⟨rfl, rfl⟩
                 go_wp2_with fail
                 go_ret
                 exact ⟨by first | rfl | simp, HC1.out⟩
theorem sameC_len {a b : CI} (h : a.set.length ≠ b.set.length) : sameC a b = false := by
 unfold sameC
 rw [show (a.set == b.set) = false from beq_false_of_ne (fun e => h (by rw [e]))]
 simp
theorem sameC_set {a b : CI} (h : a.set ≠ b.set) : sameC a b = false := by
 unfold sameC
 rw [show (a.set == b.set) = false from beq_false_of_ne h]
 simp
theorem sameC_data {a b : CI} (h : a.data ≠ b.data) : sameC a b = false := by
 unfold sameC
 rw [show (a.data == b.data) = false from beq_false_of_ne h]
 simp
theorem sameC_rest {a b : CI} (h1 : a.set = b.set) (h2 : a.data = b.data) : sameC a b = (a.tag == b.tag && (a.kind == b.kind && (a.mbox == b.mbox && (a.items == b.items && (a.mode == b.mode && (a.silent == b.silent && a.flags == b.flags)))))) := by
 unfold sameC
 rw [h1, h2]
 simp
theorem rsame_any (a b : CI) (A1 A2 A3 A4 : Option Addr) (n1 k1 n2 k2 n3 k3 n4 k4 : Nat) (e1 : a.set.length = n1) (e2 : a.data.length = n2) (e3 : b.set.length = n3) (e4 : b.data.length = n4) (l1 : n1 ≤ 1000000) (_l2 : n2 ≤ 1000000) (l3 : n3 ≤ 1000000) (_l4 : n4 ≤ 1000000) (w : World) (s1 : SlAt encR 2 w A1 a.set) (s2 : ByAt w.heap.size w A2 k2 a.data) (s3 : SlAt encR 2 w A3 b.set) (s4 : ByAt w.heap.size w A4 k4 b.data) :
 Calls Tryz.prog 23 #[.agg #[.string ⟨a.tag.toArray⟩, .int .i64 a.kind, .string ⟨a.mbox.toArray⟩, .slice A1 n1 k1, .int .i64 a.items, .int .i64 a.mode, .bool a.silent, .int .u8 a.flags, .slice A2 n2 k2], .agg #[.string ⟨b.tag.toArray⟩, .int .i64 b.kind, .string ⟨b.mbox.toArray⟩, .slice A3 n3 k3, .int .i64 b.items, .int .i64 b.mode, .bool b.silent, .int .u8 b.flags, .slice A4 n4 k4]] w fun e w' => e = .returned (.bool (sameC a b)) ∧ Below w.heap.size w w' := by
 have B0 := YA (YB w (.cells #[.string ⟨a.tag.toArray⟩, .int .i64 a.kind, .string ⟨a.mbox.toArray⟩, .slice A1 n1 k1, .int .i64 a.items, .int .i64 a.mode, .bool a.silent, .int .u8 a.flags, .slice A2 n2 k2] 26)) (YB _ (.cells #[.string ⟨b.tag.toArray⟩, .int .i64 b.kind, .string ⟨b.mbox.toArray⟩, .slice A3 n3 k3, .int .i64 b.items, .int .i64 b.mode, .bool b.silent, .int .u8 b.flags, .slice A4 n4 k4] 26))
 have ha := ((YB (w.alloc (.cells #[.string ⟨a.tag.toArray⟩, .int .i64 a.kind, .string ⟨a.mbox.toArray⟩, .slice A1 n1 k1, .int .i64 a.items, .int .i64 a.mode, .bool a.silent, .int .u8 a.flags, .slice A2 n2 k2] 26)) (.cells #[.string ⟨b.tag.toArray⟩, .int .i64 b.kind, .string ⟨b.mbox.toArray⟩, .slice A3 n3 k3, .int .i64 b.items, .int .i64 b.mode, .bool b.silent, .int .u8 b.flags, .slice A4 n4 k4] 26)).block w.heap.size (by simp)).trans (YD w (.cells #[.string ⟨a.tag.toArray⟩, .int .i64 a.kind, .string ⟨a.mbox.toArray⟩, .slice A1 n1 k1, .int .i64 a.items, .int .i64 a.mode, .bool a.silent, .int .u8 a.flags, .slice A2 n2 k2] 26))
 have hb := YD (w.alloc (.cells #[.string ⟨a.tag.toArray⟩, .int .i64 a.kind, .string ⟨a.mbox.toArray⟩, .slice A1 n1 k1, .int .i64 a.items, .int .i64 a.mode, .bool a.silent, .int .u8 a.flags, .slice A2 n2 k2] 26)) (.cells #[.string ⟨b.tag.toArray⟩, .int .i64 b.kind, .string ⟨b.mbox.toArray⟩, .slice A3 n3 k3, .int .i64 b.items, .int .i64 b.mode, .bool b.silent, .int .u8 b.flags, .slice A4 n4 k4] 26)
 rw [World.size_alloc] at hb
 have HB0 := Hi B0
 by_cases hlen : n1 = n3
 rotate_left
 · have R := Hi (sameC_len (a := a) (b := b) (by rw [e1, e3]; exact hlen))
   have hi : ((n1 : Int) != (n3 : Int)) = true := by simpa using (fun e : (n1 : Int) = n3 => hlen (by omega))
   have hi2 : ¬ (n1 : Int) = (n3 : Int) := fun e => hlen (by omega)
   clear s1 s2 s3 s4 e1 e2 e3 e4 ha hb B0 hlen
   go_enter Tryz.func23, Tryz.ntmps23
   go_wp2_with fail
   go_ret
   exact ⟨YU R.out.symm, HB0.out⟩
 subst hlen
 have c1 := convS _ ((w.alloc (.cells #[.string ⟨a.tag.toArray⟩, .int .i64 a.kind, .string ⟨a.mbox.toArray⟩, .slice A1 n1 k1, .int .i64 a.items, .int .i64 a.mode, .bool a.silent, .int .u8 a.flags, .slice A2 n2 k2] 26)).alloc (.cells #[.string ⟨b.tag.toArray⟩, .int .i64 b.kind, .string ⟨b.mbox.toArray⟩, .slice A3 n1 k3, .int .i64 b.items, .int .i64 b.mode, .bool b.silent, .int .u8 b.flags, .slice A4 n4 k4] 26)) A2 k2 n2 a.data (s2.below B0) e2
 have c2 := convS _ ((w.alloc (.cells #[.string ⟨a.tag.toArray⟩, .int .i64 a.kind, .string ⟨a.mbox.toArray⟩, .slice A1 n1 k1, .int .i64 a.items, .int .i64 a.mode, .bool a.silent, .int .u8 a.flags, .slice A2 n2 k2] 26)).alloc (.cells #[.string ⟨b.tag.toArray⟩, .int .i64 b.kind, .string ⟨b.mbox.toArray⟩, .slice A3 n1 k3, .int .i64 b.items, .int .i64 b.mode, .bool b.silent, .int .u8 b.flags, .slice A4 n4 k4] 26)) A4 k4 n4 b.data (s4.below B0) e4
 cases hdq : (a.data == b.data) with
 | false =>
   have R := Hi (sameC_data (a := a) (b := b) (by simpa using hdq))
   have hd2 : (a.data != b.data) = true := by simp [bne, hdq]
   clear s1 s2 s3 s4 e1 e2 e3 e4 ha hb B0
   go_enter Tryz.func23, Tryz.ntmps23
   go_wp2_with fail
   go_ret
   exact ⟨YU R.out.symm, HB0.out⟩
 | true =>
   have hd2 : (a.data != b.data) = false := by simp [bne, hdq]
   have hde : a.data = b.data := by simpa using hdq
   have HDE := Hi hde
   have HS1 := Hi (fun W (hB : Below w.heap.size w W) => s1.below hB)
   have HS3 := Hi (fun W (hB : Below w.heap.size w W) => s3.below hB)
   have HA := Hi ha
   have HB := Hi hb
   have HN := Hi e1
   have HN3 := Hi e3
   clear s1 s2 s3 s4 e1 e2 e3 e4 ha hb B0 hde
   generalize hq : sameC a b = q at *
   have HQ := Hi hq
   clear hq
   go_enter Tryz.func23, Tryz.ntmps23
   go_wp2_with fail
   clear c1 c2
   have hz0 : ((w.alloc (.cells #[.string ⟨a.tag.toArray⟩, .int .i64 a.kind, .string ⟨a.mbox.toArray⟩, .slice A1 n1 k1, .int .i64 a.items, .int .i64 a.mode, .bool a.silent, .int .u8 a.flags, .slice A2 n2 k2] 26)).alloc (.cells #[.string ⟨b.tag.toArray⟩, .int .i64 b.kind, .string ⟨b.mbox.toArray⟩, .slice A3 n1 k3, .int .i64 b.items, .int .i64 b.mode, .bool b.silent, .int .u8 b.flags, .slice A4 n4 k4] 26)).heap.size = w.heap.size + 2 := by simp
   generalize ((w.alloc (.cells #[.string ⟨a.tag.toArray⟩, .int .i64 a.kind, .string ⟨a.mbox.toArray⟩, .slice A1 n1 k1, .int .i64 a.items, .int .i64 a.mode, .bool a.silent, .int .u8 a.flags, .slice A2 n2 k2] 26)).alloc (.cells #[.string ⟨b.tag.toArray⟩, .int .i64 b.kind, .string ⟨b.mbox.toArray⟩, .slice A3 n1 k3, .int .i64 b.items, .int .i64 b.mode, .bool b.silent, .int .u8 b.flags, .slice A4 n4 k4] 26)) = W0 at *
   go_loopw [5] (fun i wr => ∃ k : Nat, k ≤ n1 ∧ i = .int .i64 (k : Int) ∧ Hid (a.set.take k = b.set.take k) ∧ Hid (Below W0.heap.size W0 wr)) (fun i _ => n1 - (intOf i).toNat)
   case atStart => exact ⟨0, Nat.zero_le _, rfl, Hi rfl, Hi (Below.refl _ _)⟩
   case round =>
    obtain ⟨k, hk, rfl, hE, hB⟩ := hrel
    have HA1 := Hi ((hB.out.block w.heap.size (by omega)).trans HA.out)
    have HB1 := Hi ((hB.out.block (w.heap.size + 1) (by omega)).trans HB.out)
    have HC1 := Hi (YA HB0.out hB.out)
    have x0 := cell_of_row _ _ 0 _ _ _ HA1.out
    have x1 := cell_of_row _ _ 1 _ _ _ HA1.out
    have x2 := cell_of_row _ _ 2 _ _ _ HA1.out
    have x3 := cell_of_row _ _ 3 _ _ _ HA1.out
    have x4 := cell_of_row _ _ 4 _ _ _ HA1.out
    have x5 := cell_of_row _ _ 5 _ _ _ HA1.out
    have x6 := cell_of_row _ _ 6 _ _ _ HA1.out
    have x7 := cell_of_row _ _ 7 _ _ _ HA1.out
    have x8 := cell_of_row _ _ 8 _ _ _ HA1.out
    have y0 := cell_of_row _ _ 0 _ _ _ HB1.out
    have y1 := cell_of_row _ _ 1 _ _ _ HB1.out
    have y2 := cell_of_row _ _ 2 _ _ _ HB1.out
    have y3 := cell_of_row _ _ 3 _ _ _ HB1.out
    have y4 := cell_of_row _ _ 4 _ _ _ HB1.out
    have y5 := cell_of_row _ _ 5 _ _ _ HB1.out
    have y6 := cell_of_row _ _ 6 _ _ _ HB1.out
    have y7 := cell_of_row _ _ 7 _ _ _ HB1.out
    have y8 := cell_of_row _ _ 8 _ _ _ HB1.out
    by_cases hlt : k < n1
    · obtain ⟨g, off, rfl, _, hc0, hc1⟩ := r_at (HS1.out _ HC1.out) (j := k) (by rw [HN.out]; exact hlt)
      obtain ⟨g2, off2, rfl, _, hd0, hd1⟩ := r_at (HS3.out _ HC1.out) (j := k) (by rw [HN3.out]; exact hlt)
      have hk0 : (0 : Int) ≤ (k : Int) := by omega
      have hk1 : (k : Int) < (n1 : Int) := by omega
      by_cases he : a.set[k]'(by rw [HN.out]; exact hlt) = b.set[k]'(by rw [HN3.out]; exact hlt)
      · have HS := Hi (eqR_snoc hE.out (by rw [HN.out]; exact hlt) (by rw [HN3.out]; exact hlt) he)
        rw [← he] at hd0 hd1
        clear he
        generalize (a.set[k]'(by rw [HN.out]; exact hlt)).1 = x at *
        generalize (a.set[k]'(by rw [HN.out]; exact hlt)).2 = y at *
        go_wp2_with fail
        go_quiet (fail)
        go_wp2_with fail
        go_roundw
        case rel => exact ⟨k + 1, by omega, by go_num, HS, Hi (YA hB.out (drewN_below7 _ _))⟩
        case measure => simp [intOf]; omega
      · have HS := Hi (show q = false by rw [← HQ.out]; exact sameC_set (fun e => he (by simp [e])))
        have hne : ¬ ((a.set[k]'(by rw [HN.out]; exact hlt)).1 = (b.set[k]'(by rw [HN3.out]; exact hlt)).1 ∧ (a.set[k]'(by rw [HN.out]; exact hlt)).2 = (b.set[k]'(by rw [HN3.out]; exact hlt)).2) := fun e => he (Prod.ext e.1 e.2)
        clear he
        generalize (a.set[k]'(by rw [HN.out]; exact hlt)).1 = x at *
        generalize (a.set[k]'(by rw [HN.out]; exact hlt)).2 = y at *
        generalize (b.set[k]'(by rw [HN3.out]; exact hlt)).1 = x2' at *
        generalize (b.set[k]'(by rw [HN3.out]; exact hlt)).2 = y2' at *
        by_cases hx : x = x2'
        · have hy : ¬ y = y2' := fun e => hne ⟨hx, e⟩
          subst hx
          have f2 : ((y : Int) == (y2' : Int)) = false := by simpa using (fun e : (y : Int) = y2' => hy (by omega))
          have f3 : ¬ ((y : Int) = (y2' : Int)) := fun e => hy (by omega)
          clear hne
          go_wp2_with fail
          go_quiet (fail)
          go_wp2_with fail
          go_ret
          exact ⟨YU HS.out.symm, YA HC1.out (drewN_below7 _ _)⟩
        · have f2 : ((x : Int) == (x2' : Int)) = false := by simpa using (fun e : (x : Int) = x2' => hx (by omega))
          have f3 : ¬ ((x : Int) = (x2' : Int)) := fun e => hx (by omega)
          clear hne
          go_wp2_with fail
          go_quiet (fail)
          go_wp2_with fail
          go_ret
          exact ⟨YU HS.out.symm, YA HC1.out (drewN_below7 _ _)⟩
    · obtain rfl : k = n1 := by omega
      have hse : a.set = b.set := by
       have := hE.out
       rw [List.take_of_length_le (by rw [HN.out]; exact Nat.le_refl _), List.take_of_length_le (by rw [HN3.out]; exact Nat.le_refl _)] at this
       exact this
      have R := Hi (show _ = q from (sameC_rest hse HDE.out).symm.trans HQ.out)
      clear hse hE
      cases p0 : (a.tag == b.tag) with
      | false =>
        go_wp2_with fail
        go_ret
        exact ⟨by rw [← R.out]; simp [p0], HC1.out⟩
      | true =>
        cases p1 : (a.kind == b.kind) with
        | false =>
          go_wp2_with fail
          go_ret
          exact ⟨by rw [← R.out]; simp [p0, p1], HC1.out⟩
        | true =>
          cases p2 : (a.mbox == b.mbox) with
          | false =>
            go_wp2_with fail
            go_ret
            exact ⟨by rw [← R.out]; simp [p0, p1, p2], HC1.out⟩
          | true =>
            cases p3 : (a.items == b.items) with
            | false =>
              go_wp2_with fail
              go_ret
              exact ⟨by rw [← R.out]; simp [p0, p1, p2, p3], HC1.out⟩
            | true =>
              cases p4 : (a.mode == b.mode) with
              | false =>
                go_wp2_with fail
                go_ret
                exact ⟨by rw [← R.out]; simp [p0, p1, p2, p3, p4], HC1.out⟩
              | true =>
                cases p5 : (a.silent == b.silent) with
                | false =>
                  go_wp2_with fail
                  go_ret
                  exact ⟨by rw [← R.out]; simp [p0, p1, p2, p3, p4, p5], HC1.out⟩
                | true =>
                  go_wp2_with fail
                  go_ret
                  exact ⟨by rw [← R.out]; simp [p0, p1, p2, p3, p4, p5], HC1.out⟩
section
open Go.ChangeShapes Go.WideShapes Go.ChangeAt Go.WideMaps Go.WideElems
theorem laidOut : laidOutB Tryz.prog = true := by kernel_rfl
theorem own : ownKnob Tryz.prog.godebug = none := by kernel_rfl
theorem trodAll_later {H : Type} {enc : TypeId × Value → H} {W W' : World} (hb : Below W.heap.size W W') :
 ∀ (ts : List TypeId) (vs : List Value) (ds : List (DataW H)) (ps : List MemPlace), (∀ t ∈ ts, (Tryz.prog.readableRec t && decide (t < Tryz.prog.types.size)) = true) →
  DataW.TrodAll enc Tryz.prog W 0 (fun _ => true) true ts vs ds ps → (∀ x ∈ ps, x.block < W.heap.size) → DataW.TrodAll enc Tryz.prog W' 0 (fun b => decide (b < W.heap.size)) true ts vs ds ps
 | [], [], [], _, _, h, _ => h
 | t :: ts, v :: vs, d :: ds, ps, hr, h, hlt => by
   obtain ⟨p, q, h1, h2, rfl⟩ := h
   have hx := hr t (by simp)
   simp only [Bool.and_eq_true, decide_eq_true_eq] at hx
   exact ⟨p, q, Below.trod laidOut hx.1 hx.2 h1 hb (fun x hm => hlt x (by simp [hm])), trodAll_later hb ts vs ds q (fun u hu => hr u (by simp [hu])) h2 (fun x hm => hlt x (by simp [hm])), rfl⟩
 | [], [], _ :: _, _, _, h, _ => h.elim
 | [], _ :: _, _, _, _, h, _ => h.elim
 | _ :: _, [], _, _, _, h, _ => h.elim
 | _ :: _, _ :: _, [], _, _, h, _ => h.elim
theorem law_post {H : Type} {enc : TypeId × Value → H} {f : Func} {s : ChangeSpec} (hv : s.vars = []) (hr : f.resultTypes = #[4]) (hp : (f.params.toList.all fun t => Tryz.prog.readableRec t && decide (t < Tryz.prog.types.size)) = true)
 {W W' : World} {args : Array Value} {ds : List (DataW H)} {before : List MemPlace} (hs : s.fn H (ds ++ []) = { results := [.lit (.bool true)], args := ds })
 (hW : DataW.Whole enc Tryz.prog f.params.toList s.vars false W args.toList ds [] before) (hb : Below W.heap.size W W') : s.post enc Tryz.prog f false true false false W args (.bool true) W' := by
 have hlt := hW.lt
 have hW2 := hW
 obtain ⟨p, q, hA, hV, rfl, _, _⟩ := hW
 rw [hv] at hV
 obtain ⟨_, rfl⟩ := trodVars_none hV
 refine ⟨ds, [], p ++ [], [], p, [], hW2, ?_, ?_, ?_, hb.frame _, fun h => by cases h⟩
 · rw [hs, hr]
   exact trodAll_mk1 (shut_bool Tryz.underlying4 _)
 · rw [hs]
   exact trodAll_later hb _ _ _ _ (List.all_eq_true.1 hp) hA (fun x hx => hlt x (by simp [hx]))
 · rw [hs, hv]
   rfl
theorem env_of {L : List (String × DataW Unit)} {W : World} (h : laidMetH Tryz.prog L W) (hp : (L.all fun x => x.2.handleName?.isNone) = true)
 (h1 : L.filter (fun x => x.1 == "internal/strconv.uint64pow10") = [("internal/strconv.uint64pow10", Lib.tabData .u64 Lib.pow10Tab)])
 (h2 : L.filter (fun x => x.1 == "strconv.ErrSyntax") = [("strconv.ErrSyntax", Rows.laid_strconv_ErrSyntax)])
 (h3 : L.filter (fun x => x.1 == "strconv.ErrRange") = [("strconv.ErrRange", Rows.laid_strconv_ErrRange)]) : Env W := by
 rw [MakeChecks.laidMetH_plain _ _ _ hp] at h
 have t1 := h.filter (fun x => x.1 == "internal/strconv.uint64pow10")
 have t2 := h.filter (fun x => x.1 == "strconv.ErrSyntax")
 have t3 := h.filter (fun x => x.1 == "strconv.ErrRange")
 rw [h1] at t1
 rw [h2] at t2
 rw [h3] at t3
 have star : "*errors.errorString" = "*" ++ "errors.errorString" := by decide
 have hrow : ∀ u, Tryz.prog.typeName? 3 u = some "*errors.errorString" → u = 254 := fun u hu =>
  typeName_ptr_named (nm := "errors.errorString") (by rw [← star]; kernel_rfl) (by kernel_rfl) (by decide) u (by rw [← star]; exact hu)
 obtain ⟨a, _, e2, _⟩ := laid_sentinel t2 globSyn (by kernel_rfl) Tryz.underlying79 hrow Tryz.underlying254 Tryz.underlying256 rfl rfl Tryz.underlying9 (by kernel_rfl) (by kernel_rfl)
 obtain ⟨b, _, e3, _⟩ := laid_sentinel t3 globRng (by kernel_rfl) Tryz.underlying79 hrow Tryz.underlying254 Tryz.underlying256 rfl rfl Tryz.underlying9 (by kernel_rfl) (by kernel_rfl)
 exact ⟨Lib.tabIs_of_head globTab (by kernel_rfl) Tryz.underlying202 Tryz.underlying115 (by kernel_rfl) (by kernel_rfl) t1, ⟨_, _, e2⟩, ⟨_, _, e3⟩⟩
theorem wf_u8 {x : Int} (h : (Lit.int .u8 x).wf = true) : 0 ≤ x ∧ x ≤ 255 := by
 have := bounds_u8 h
 omega
theorem open_bytes {H : Type} {enc : TypeId × Value → H} {W : World} {base : Nat} {v : Value} {d : DataW H} {p : List MemPlace}
 (hv : Value.okWide Tryz.prog W .any base 24 v) (h : DataW.Trod enc Tryz.prog W 0 (fun _ => true) true 24 v d p) (hlt : ∀ x ∈ p, x.block < W.heap.size) :
 ∃ A c, ∃ l : List UInt8, v = .slice A l.length c ∧ l.length ≤ maxLen ∧ ByAt W.heap.size W A c l := by
 obtain ⟨a0, len, cap, rfl⟩ := okWide_slice Tryz.underlying24 hv
 obtain ⟨fuel, hf⟩ := h
 rcases open_ints Tryz.underlying24 Tryz.underlying5 (by kernel_rfl) hf with ⟨hcs, _⟩ | ⟨a, len', cap', zs, hcs, _, hlc, hcm, hzl, hx, hi, hwf⟩
 · simp [Value.cells] at hcs
   obtain ⟨rfl, rfl, rfl⟩ := hcs
   exact ⟨none, 0, [], rfl, Nat.zero_le _, ByAt.nil _ _ _ _⟩
 · simp [Value.cells] at hcs
   obtain ⟨rfl, rfl, rfl⟩ := hcs
   simp only [if_true] at hzl
   have each : ∀ i, i < len → ∃ n : UInt8, W.cell? (a.add i) = some (.int .u8 (n.toNat : Int)) := by
    intro i hil
    have hc := hi i (by omega)
    have hw := wf_u8 (hwf (zs.getD i 0) (by
     rw [List.getD_eq_getElem?_getD, List.getElem?_eq_getElem (by omega)]
     exact List.getElem_mem _))
    refine ⟨UInt8.ofNat (zs.getD i 0).toNat, ?_⟩
    rw [hc, UInt8.toNat_ofNat', Nat.mod_eq_of_lt (by omega)]
    congr 2
    omega
   obtain ⟨f, hf⟩ := Go.Deep.choose_lt each
   have hll : ((List.range len).map f).length = len := by rw [List.length_map, List.length_range]
   refine ⟨some a, _, (List.range len).map f, by rw [hll], by rw [hll]; exact Nat.le_trans hlc hcm, ⟨by rw [hll]; exact hlc, ?_⟩⟩
   by_cases h0 : len = 0
   · exact .inl (by simp [h0])
   · obtain ⟨b, off, spot⟩ := a
     have hspot : spot = none := by simpa [Addr.add] using World.cell?_spot (hf 0 (by omega))
     subst hspot
     have hb : b < W.heap.size := hlt (.cell b off) (by
      simp only [Prod.mk.injEq] at hx
      rw [hx.2]
      exact MemPlace.mem_row.2 ⟨0, by omega, by simp⟩)
     refine .inr ⟨b, off, rfl, hb, hb, fun j hj => ?_⟩
     rw [hll] at hj
     have c0 := hf j hj
     rw [add_plain] at c0
     simpa using c0
structure CIok (a : CI) : Prop where
 tag : a.tag.length ≤ maxLen
 mbox : a.mbox.length ≤ maxLen
 set : a.set.length ≤ maxLen
 data : a.data.length ≤ maxLen
 kind : -9223372036854775808 ≤ a.kind ∧ a.kind ≤ 9223372036854775807
 items : -9223372036854775808 ≤ a.items ∧ a.items ≤ 9223372036854775807
 mode : -9223372036854775808 ≤ a.mode ∧ a.mode ≤ 9223372036854775807
 flags : 0 ≤ a.flags ∧ a.flags ≤ 255
 ranges : ∀ r ∈ a.set, r.1 ≤ 4294967295 ∧ r.2 ≤ 4294967295
def ciV (a : CI) (A1 A2 : Option Addr) (k1 k2 : Nat) : Value := .agg #[.string ⟨a.tag.toArray⟩, .int .i64 a.kind, .string ⟨a.mbox.toArray⟩, .slice A1 a.set.length k1, .int .i64 a.items, .int .i64 a.mode, .bool a.silent, .int .u8 a.flags, .slice A2 a.data.length k2]
end
theorem ZS {W : World} {g : Nat} {a0 a1 a2 a3 a4 a5 a6 a7 a8 : Value} {T : TypeId} {z : Nat × Nat} (h : W.heap[g]? = some (.cells #[a0, a1, a2, a3, a4, a5, a6, a7, a8] T z)) :
 W.cell? ⟨g, 0, none⟩ = some a0 ∧ W.cell? ⟨g, 1, none⟩ = some a1 ∧ W.cell? ⟨g, 2, none⟩ = some a2 ∧ W.cell? ⟨g, 3, none⟩ = some a3 ∧ W.cell? ⟨g, 4, none⟩ = some a4 ∧ W.cell? ⟨g, 5, none⟩ = some a5 ∧ W.cell? ⟨g, 6, none⟩ = some a6 ∧ W.cell? ⟨g, 7, none⟩ = some a7 ∧ W.cell? ⟨g, 8, none⟩ = some a8 :=
 ⟨cell_of_row _ _ 0 _ _ _ h, cell_of_row _ _ 1 _ _ _ h, cell_of_row _ _ 2 _ _ _ h, cell_of_row _ _ 3 _ _ _ h, cell_of_row _ _ 4 _ _ _ h, cell_of_row _ _ 5 _ _ _ h, cell_of_row _ _ 6 _ _ _ h, cell_of_row _ _ 7 _ _ _ h, cell_of_row _ _ 8 _ _ _ h⟩
theorem sameC_refl7 (a : CI) : sameC a a = true := by simp [sameC]
def Box2 (w W : World) (a b : CI) (A1 A2 : Option Addr) (k1 k2 : Nat) (A3 A4 : Option Addr) (k3 k4 : Nat) : Prop :=
 W.heap[w.heap.size]? = some (.cells #[.string ⟨a.tag.toArray⟩, .int .i64 a.kind, .string ⟨a.mbox.toArray⟩, .slice A1 a.set.length k1, .int .i64 a.items, .int .i64 a.mode, .bool a.silent, .int .u8 a.flags, .slice A2 a.data.length k2] 26 (0, 0)) ∧
 W.heap[w.heap.size + 1]? = some (.cells #[.string ⟨b.tag.toArray⟩, .int .i64 b.kind, .string ⟨b.mbox.toArray⟩, .slice A3 b.set.length k3, .int .i64 b.items, .int .i64 b.mode, .bool b.silent, .int .u8 b.flags, .slice A4 b.data.length k4] 26 (0, 0)) ∧
 Below w.heap.size w W ∧ w.heap.size + 2 ≤ W.heap.size
theorem Box2.below {w W W' : World} {a b : CI} {A1 A2 : Option Addr} {k1 k2 : Nat} {A3 A4 : Option Addr} {k3 k4 : Nat} (h : Box2 w W a b A1 A2 k1 k2 A3 A4 k3 k4) (hb : Below W.heap.size W W') : Box2 w W' a b A1 A2 k1 k2 A3 A4 k3 k4 :=
 ⟨(hb.block _ (by have := h.2.2.2; omega)).trans h.1, (hb.block _ (by have := h.2.2.2; omega)).trans h.2.1, h.2.2.1.trans (hb.mono h.2.2.1.size), Nat.le_trans h.2.2.2 hb.size⟩
theorem Box2.start (w : World) (a b : CI) (A1 A2 : Option Addr) (k1 k2 : Nat) (A3 A4 : Option Addr) (k3 k4 : Nat) : Box2 w ((w.alloc (.cells #[.string ⟨a.tag.toArray⟩, .int .i64 a.kind, .string ⟨a.mbox.toArray⟩, .slice A1 a.set.length k1, .int .i64 a.items, .int .i64 a.mode, .bool a.silent, .int .u8 a.flags, .slice A2 a.data.length k2] 26)).alloc (.cells #[.string ⟨b.tag.toArray⟩, .int .i64 b.kind, .string ⟨b.mbox.toArray⟩, .slice A3 b.set.length k3, .int .i64 b.items, .int .i64 b.mode, .bool b.silent, .int .u8 b.flags, .slice A4 b.data.length k4] 26)) a b A1 A2 k1 k2 A3 A4 k3 k4 := by
 have hx := YD (w.alloc (.cells #[.string ⟨a.tag.toArray⟩, .int .i64 a.kind, .string ⟨a.mbox.toArray⟩, .slice A1 a.set.length k1, .int .i64 a.items, .int .i64 a.mode, .bool a.silent, .int .u8 a.flags, .slice A2 a.data.length k2] 26)) (.cells #[.string ⟨b.tag.toArray⟩, .int .i64 b.kind, .string ⟨b.mbox.toArray⟩, .slice A3 b.set.length k3, .int .i64 b.items, .int .i64 b.mode, .bool b.silent, .int .u8 b.flags, .slice A4 b.data.length k4] 26)
 rw [World.size_alloc] at hx
 exact ⟨((YB (w.alloc _) _).block w.heap.size (by simp)).trans (YD w _), hx, YA (YB w _) (YB _ _), by rw [World.size_alloc, World.size_alloc]; exact Nat.le_refl _⟩
theorem load9 {W : World} {g : Nat} {a0 a1 a2 a3 a4 a5 a6 a7 a8 : Value} {z : Nat × Nat} (h : W.heap[g]? = some (.cells #[a0, a1, a2, a3, a4, a5, a6, a7, a8] 26 z))
 (s0 : ∃ x, a0 = .string x) (s1 : ∃ x, a1 = .int .i64 x) (s2 : ∃ x, a2 = .string x) (s3 : ∃ A n k, a3 = .slice A n k) (s4 : ∃ x, a4 = .int .i64 x) (s5 : ∃ x, a5 = .int .i64 x) (s6 : ∃ x, a6 = .bool x) (s7 : ∃ x, a7 = .int .u8 x) (s8 : ∃ A n k, a8 = .slice A n k) :
 (Instr.loadAt 26 (.pointer (some ⟨g, 0, none⟩))).run Tryz.prog W = .ok (.agg #[a0, a1, a2, a3, a4, a5, a6, a7, a8]) W := by
 obtain ⟨x0, x1, x2, x3, x4, x5, x6, x7, x8⟩ := ZS h
 obtain ⟨s, rfl⟩ := s0
 obtain ⟨s, rfl⟩ := s1
 obtain ⟨s, rfl⟩ := s2
 obtain ⟨_, _, _, rfl⟩ := s3
 obtain ⟨s, rfl⟩ := s4
 obtain ⟨s, rfl⟩ := s5
 obtain ⟨s, rfl⟩ := s6
 obtain ⟨s, rfl⟩ := s7
 obtain ⟨_, _, _, rfl⟩ := s8
 simp [go_sem, x0, x1, x2, x3, x4, x5, x6, x7, x8]
end Go.Proofs.YtpgfnlhfciacoaaGreatDoor
