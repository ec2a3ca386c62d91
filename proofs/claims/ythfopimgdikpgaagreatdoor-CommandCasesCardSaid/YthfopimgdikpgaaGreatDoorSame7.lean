/- Same, of the program and of the reference. -/
import Derived.Test.YthfopimgdikpgaaGreatDoorGa
import Derived.Deep.QuietTactic
import Derived.BigQuiet
import Derived.Laws.StructEq
namespace Go.Proofs.YthfopimgdikpgaaGreatDoor
open Go.RowKit

/-- A command's fields, its numbers as Go has them. -/
structure CI where
  tag : List UInt8
  kind : Int
  mbox : List UInt8
  set : List R
  items : Int
  mode : Int
  silent : Bool
  flags : Int
  data : List UInt8
/-- All fields are equal. -/
def sameC (a b : CI) : Bool :=
  a.tag == b.tag && (a.kind == b.kind && (a.mbox == b.mbox && (a.set == b.set && (a.items == b.items && (a.mode == b.mode && (a.silent == b.silent && (a.flags == b.flags && a.data == b.data)))))))

theorem eqR_snoc {l m : List R} {k : Nat} (h : l.take k = m.take k) (h1 : k < l.length) (h2 : k < m.length) (he : l[k] = m[k]) : l.take (k + 1) = m.take (k + 1) := by
  rw [List.take_succ_eq_append_getElem h1, List.take_succ_eq_append_getElem h2, h, he]
theorem r_at {w : World} {A : Option Addr} {l : List R} (h : SlAt encR 2 w A l) {j : Nat} (hj : j < l.length) :
    ∃ b off, A = some ⟨b, off, none⟩ ∧ b < w.heap.size ∧ w.cell? ⟨b, off + j * 2, none⟩ = some (.int .u32 (l[j].1 : Int)) ∧ w.cell? ⟨b, off + j * 2 + 1, none⟩ = some (.int .u32 (l[j].2 : Int)) := by
  obtain ⟨b, off, hA, hb, hc⟩ := h.at_ hj
  exact ⟨b, off, hA, hb, hc 0 _ rfl, hc 1 _ rfl⟩
theorem drewN_below7 (w : World) (n : Nat) : Below w.heap.size w (w.drewN n) := ⟨rfl, rfl, rfl, Nat.le_refl _, fun _ _ => rfl⟩

set_option maxRecDepth 100000 in
set_option maxHeartbeats 1000000 in
theorem equalR7_any (A A2 : Option Addr) (c d n n2 : Nat) (l m : List R) (hn : l.length = n) (hn2 : m.length = n2) (hl : n ≤ 1000000000) (hm : n2 ≤ 1000000000) (w : World) (h1 : SlAt encR 2 w A l) (h2 : SlAt encR 2 w A2 m) :
    Calls Tryz.prog 34 #[.slice A n c, .slice A2 n2 d] w fun e w' => e = .returned (.bool (l == m)) ∧ Below w.heap.size w w' := by
  by_cases hlen : n = n2
  · subst hlen
    have H1 := Lib.hid h1
    have H2 := Lib.hid h2
    have HN := Lib.hid hn
    have HN2 := Lib.hid hn2
    obtain ⟨t, ht⟩ : ∃ t, (l == m) = t := ⟨_, rfl⟩
    rw [ht]
    have HT := Lib.hid ht
    clear h1 h2 ht hn hn2
    go_enter Tryz.func34, Tryz.ntmps34
    go_wp2_with fail
    go_loopw [13] (fun i wr => ∃ k : Nat, k ≤ n ∧ i = .int .i64 (k : Int) ∧ Hid (l.take k = m.take k) ∧ Below w.heap.size w wr) (fun i _ => n - (intOf i).toNat)
    case atStart => exact ⟨0, Nat.zero_le _, rfl, rfl, Below.refl _ _⟩
    case round =>
      obtain ⟨k, hk, rfl, hE, hB⟩ := hrel
      by_cases hlt : k < n
      · obtain ⟨b, off, rfl, _, hc0, hc1⟩ := r_at (H1.out.below hB) (j := k) (by rw [HN.out]; exact hlt)
        obtain ⟨b2, off2, rfl, _, hd0, hd1⟩ := r_at (H2.out.below hB) (j := k) (by rw [HN2.out]; exact hlt)
        have hk0 : (0 : Int) ≤ (k : Int) := by omega
        have hk1 : (k : Int) < (n : Int) := by omega
        by_cases he : l[k]'(by rw [HN.out]; exact hlt) = m[k]'(by rw [HN2.out]; exact hlt)
        · have HS := Lib.hid (eqR_snoc hE.out (by rw [HN.out]; exact hlt) (by rw [HN2.out]; exact hlt) he)
          rw [← he] at hd0 hd1
          clear he
          generalize (l[k]'(by rw [HN.out]; exact hlt)).1 = x at *
          generalize (l[k]'(by rw [HN.out]; exact hlt)).2 = y at *
          go_wp2_with fail
          go_quiet (fail)
          go_wp2_with fail
          go_roundw
          case rel => exact ⟨k + 1, by omega, by go_num, HS.out, below_next hB (drewN_below7 _ _)⟩
          case measure => simp [intOf]; omega
        · have HS := Lib.hid (show t = false by rw [← HT.out]; exact beq_false_of_ne (fun e => by subst e; exact he rfl))
          have hne : ¬ ((l[k]'(by rw [HN.out]; exact hlt)).1 = (m[k]'(by rw [HN2.out]; exact hlt)).1 ∧ (l[k]'(by rw [HN.out]; exact hlt)).2 = (m[k]'(by rw [HN2.out]; exact hlt)).2) := fun e => he (Prod.ext e.1 e.2)
          clear he
          generalize (l[k]'(by rw [HN.out]; exact hlt)).1 = x at *
          generalize (l[k]'(by rw [HN.out]; exact hlt)).2 = y at *
          generalize (m[k]'(by rw [HN2.out]; exact hlt)).1 = x2 at *
          generalize (m[k]'(by rw [HN2.out]; exact hlt)).2 = y2 at *
          by_cases hx : x = x2
          · have hy : ¬ y = y2 := fun e => hne ⟨hx, e⟩
            subst hx
            have f2 : ((y : Int) == (y2 : Int)) = false := by simpa using (fun e : (y : Int) = y2 => hy (by omega))
            have f3 : ¬ ((y : Int) = (y2 : Int)) := fun e => hy (by omega)
            clear hne
            go_wp2_with fail
            go_quiet (fail)
            go_wp2_with fail
            go_ret
            exact ⟨ret_bool HS.out.symm, below_next hB (drewN_below7 _ _)⟩
          · have f2 : ((x : Int) == (x2 : Int)) = false := by simpa using (fun e : (x : Int) = x2 => hx (by omega))
            have f3 : ¬ ((x : Int) = (x2 : Int)) := fun e => hx (by omega)
            clear hne
            go_wp2_with fail
            go_quiet (fail)
            go_wp2_with fail
            go_ret
            exact ⟨ret_bool HS.out.symm, below_next hB (drewN_below7 _ _)⟩
      · obtain rfl : k = n := by omega
        have HS := Lib.hid (show t = true by
          rw [← HT.out]
          have := hE.out
          rw [List.take_of_length_le (by rw [HN.out]; exact Nat.le_refl _), List.take_of_length_le (by rw [HN2.out]; exact Nat.le_refl _)] at this
          exact beq_iff_eq.2 this)
        go_wp2_with fail
        go_ret
        exact ⟨ret_bool HS.out.symm, hB⟩
  · have hne : l ≠ m := fun e => hlen (by rw [← hn, ← hn2, e])
    rw [beq_false_of_ne hne]
    have hi : ¬ (n : Int) = (n2 : Int) := by omega
    clear h1 h2 hne hn hn2
    go_enter Tryz.func34, Tryz.ntmps34
    go_wp2
    go_ret
    exact ⟨rfl, Below.refl _ _⟩

set_option maxRecDepth 100000 in
theorem bytesEq7_any (B1 B2 : Nat) (A A2 : Option Addr) (c d n n2 : Nat) (l m : List UInt8) (hn : l.length = n) (hn2 : m.length = n2) (w : World) (h1 : ByAt B1 w A c l) (h2 : ByAt B2 w A2 d m) :
    Calls Tryz.prog 35 #[.slice A n c, .slice A2 n2 d] w fun e w' => e = .returned (.bool (l == m)) ∧ w = w' := by
  have k1 := convS B1 w A c n l h1 hn
  have k2 := convS B2 w A2 d n2 m h2 hn2
  clear h1 h2 hn hn2
  go_enter Tryz.func35, Tryz.ntmps35
  go_wp2_with fail
  go_ret
  exact ⟨rfl, rfl⟩

set_option maxRecDepth 100000 in
set_option maxHeartbeats 4000000 in
theorem psame_any (a b : CI) (A1 A2 A3 A4 : Option Addr) (n1 k1 n2 k2 n3 k3 n4 k4 : Nat) (e1 : a.set.length = n1) (e2 : a.data.length = n2) (e3 : b.set.length = n3) (e4 : b.data.length = n4) (l1 : n1 ≤ 1000000) (_l2 : n2 ≤ 1000000) (l3 : n3 ≤ 1000000) (_l4 : n4 ≤ 1000000) (w : World) (s1 : SlAt encR 2 w A1 a.set) (s2 : ByAt w.heap.size w A2 k2 a.data) (s3 : SlAt encR 2 w A3 b.set) (s4 : ByAt w.heap.size w A4 k4 b.data) :
    Calls Tryz.prog 16 #[.agg #[.string ⟨a.tag.toArray⟩, .int .i64 a.kind, .string ⟨a.mbox.toArray⟩, .slice A1 n1 k1, .int .i64 a.items, .int .i64 a.mode, .bool a.silent, .int .u8 a.flags, .slice A2 n2 k2], .agg #[.string ⟨b.tag.toArray⟩, .int .i64 b.kind, .string ⟨b.mbox.toArray⟩, .slice A3 n3 k3, .int .i64 b.items, .int .i64 b.mode, .bool b.silent, .int .u8 b.flags, .slice A4 n4 k4]] w fun e w' => e = .returned (.bool (sameC a b)) ∧ Below w.heap.size w w' := by
  have SE := Lib.hid (fun W (hB : Below w.heap.size w W) => equalR7_any A1 A3 k1 k3 n1 n3 a.set b.set e1 e3 (by omega) (by omega) W (s1.below hB) (s3.below hB))
  have BE := Lib.hid (fun W (hB : Below w.heap.size w W) => bytesEq7_any _ _ A2 A4 k2 k4 n2 n4 a.data b.data e2 e4 W (s2.below hB) (s4.below hB))
  have B0 := below_next (below_al w (.cells #[.string ⟨a.tag.toArray⟩, .int .i64 a.kind, .string ⟨a.mbox.toArray⟩, .slice A1 n1 k1, .int .i64 a.items, .int .i64 a.mode, .bool a.silent, .int .u8 a.flags, .slice A2 n2 k2] 27)) (below_al _ (.cells #[.string ⟨b.tag.toArray⟩, .int .i64 b.kind, .string ⟨b.mbox.toArray⟩, .slice A3 n3 k3, .int .i64 b.items, .int .i64 b.mode, .bool b.silent, .int .u8 b.flags, .slice A4 n4 k4] 27))
  have ha := ((below_al (w.alloc (.cells #[.string ⟨a.tag.toArray⟩, .int .i64 a.kind, .string ⟨a.mbox.toArray⟩, .slice A1 n1 k1, .int .i64 a.items, .int .i64 a.mode, .bool a.silent, .int .u8 a.flags, .slice A2 n2 k2] 27)) (.cells #[.string ⟨b.tag.toArray⟩, .int .i64 b.kind, .string ⟨b.mbox.toArray⟩, .slice A3 n3 k3, .int .i64 b.items, .int .i64 b.mode, .bool b.silent, .int .u8 b.flags, .slice A4 n4 k4] 27)).block w.heap.size (by simp)).trans (heap_alloc_new w (.cells #[.string ⟨a.tag.toArray⟩, .int .i64 a.kind, .string ⟨a.mbox.toArray⟩, .slice A1 n1 k1, .int .i64 a.items, .int .i64 a.mode, .bool a.silent, .int .u8 a.flags, .slice A2 n2 k2] 27))
  have hb := heap_alloc_new (w.alloc (.cells #[.string ⟨a.tag.toArray⟩, .int .i64 a.kind, .string ⟨a.mbox.toArray⟩, .slice A1 n1 k1, .int .i64 a.items, .int .i64 a.mode, .bool a.silent, .int .u8 a.flags, .slice A2 n2 k2] 27)) (.cells #[.string ⟨b.tag.toArray⟩, .int .i64 b.kind, .string ⟨b.mbox.toArray⟩, .slice A3 n3 k3, .int .i64 b.items, .int .i64 b.mode, .bool b.silent, .int .u8 b.flags, .slice A4 n4 k4] 27)
  rw [World.size_alloc] at hb
  have HA := Lib.hid ha
  have HB := Lib.hid hb
  have HB0 := Lib.hid B0
  clear s1 s2 s3 s4 e1 e2 e3 e4 ha hb B0
  unfold sameC
  cases p0 : (a.tag == b.tag) with
  | false =>
    go_enter Tryz.func16, Tryz.ntmps16
    go_wp2_with fail
    go_ret
    exact ⟨by first | rfl | simp, HB0.out⟩
  | true =>
    cases p1 : (a.kind == b.kind) with
    | false =>
      go_enter Tryz.func16, Tryz.ntmps16
      go_wp2_with fail
      go_ret
      exact ⟨by first | rfl | simp, HB0.out⟩
    | true =>
      cases p2 : (a.mbox == b.mbox) with
      | false =>
        go_enter Tryz.func16, Tryz.ntmps16
        go_wp2_with fail
        go_ret
        exact ⟨by first | rfl | simp, HB0.out⟩
      | true =>
        cases p3 : (a.set == b.set) with
        | false =>
          go_enter Tryz.func16, Tryz.ntmps16
          go_wp2_with fail
          refine (SE.out _ HB0.out).mono ?_
          rintro e w1 ⟨rfl, h1⟩
          have HA1 := Lib.hid ((h1.block w.heap.size (by simp; omega)).trans HA.out)
          have HB1 := Lib.hid ((h1.block (w.heap.size + 1) (by simp)).trans HB.out)
          have HC1 := Lib.hid (below_next HB0.out h1)
          clear h1
          go_wp2_with fail
          go_ret
          exact ⟨by first | rfl | simp, HC1.out⟩
        | true =>
          cases p4 : (a.items == b.items) with
          | false =>
            go_enter Tryz.func16, Tryz.ntmps16
            go_wp2_with fail
            refine (SE.out _ HB0.out).mono ?_
            rintro e w1 ⟨rfl, h1⟩
            have HA1 := Lib.hid ((h1.block w.heap.size (by simp; omega)).trans HA.out)
            have HB1 := Lib.hid ((h1.block (w.heap.size + 1) (by simp)).trans HB.out)
            have HC1 := Lib.hid (below_next HB0.out h1)
            have x0 := cell_of_row _ _ 0 _ _ _ HA1.out
            have x1 := cell_of_row _ _ 1 _ _ _ HA1.out
            have x2 := cell_of_row _ _ 2 _ _ _ HA1.out
            have x3 := cell_of_row _ _ 3 _ _ _ HA1.out
            have x4 := cell_of_row _ _ 4 _ _ _ HA1.out
            have x5 := cell_of_row _ _ 5 _ _ _ HA1.out
            have x6 := cell_of_row _ _ 6 _ _ _ HA1.out
            have x7 := cell_of_row _ _ 7 _ _ _ HA1.out
            have x8 := cell_of_row _ _ 8 _ _ _ HA1.out
            have y0 := cell_of_row _ _ 0 _ _ _ HB1.out
            have y1 := cell_of_row _ _ 1 _ _ _ HB1.out
            have y2 := cell_of_row _ _ 2 _ _ _ HB1.out
            have y3 := cell_of_row _ _ 3 _ _ _ HB1.out
            have y4 := cell_of_row _ _ 4 _ _ _ HB1.out
            have y5 := cell_of_row _ _ 5 _ _ _ HB1.out
            have y6 := cell_of_row _ _ 6 _ _ _ HB1.out
            have y7 := cell_of_row _ _ 7 _ _ _ HB1.out
            have y8 := cell_of_row _ _ 8 _ _ _ HB1.out
            clear h1
            go_wp2_with fail
            go_ret
            exact ⟨by first | rfl | simp, HC1.out⟩
          | true =>
            cases p5 : (a.mode == b.mode) with
            | false =>
              go_enter Tryz.func16, Tryz.ntmps16
              go_wp2_with fail
              refine (SE.out _ HB0.out).mono ?_
              rintro e w1 ⟨rfl, h1⟩
              have HA1 := Lib.hid ((h1.block w.heap.size (by simp; omega)).trans HA.out)
              have HB1 := Lib.hid ((h1.block (w.heap.size + 1) (by simp)).trans HB.out)
              have HC1 := Lib.hid (below_next HB0.out h1)
              have x0 := cell_of_row _ _ 0 _ _ _ HA1.out
              have x1 := cell_of_row _ _ 1 _ _ _ HA1.out
              have x2 := cell_of_row _ _ 2 _ _ _ HA1.out
              have x3 := cell_of_row _ _ 3 _ _ _ HA1.out
              have x4 := cell_of_row _ _ 4 _ _ _ HA1.out
              have x5 := cell_of_row _ _ 5 _ _ _ HA1.out
              have x6 := cell_of_row _ _ 6 _ _ _ HA1.out
              have x7 := cell_of_row _ _ 7 _ _ _ HA1.out
              have x8 := cell_of_row _ _ 8 _ _ _ HA1.out
              have y0 := cell_of_row _ _ 0 _ _ _ HB1.out
              have y1 := cell_of_row _ _ 1 _ _ _ HB1.out
              have y2 := cell_of_row _ _ 2 _ _ _ HB1.out
              have y3 := cell_of_row _ _ 3 _ _ _ HB1.out
              have y4 := cell_of_row _ _ 4 _ _ _ HB1.out
              have y5 := cell_of_row _ _ 5 _ _ _ HB1.out
              have y6 := cell_of_row _ _ 6 _ _ _ HB1.out
              have y7 := cell_of_row _ _ 7 _ _ _ HB1.out
              have y8 := cell_of_row _ _ 8 _ _ _ HB1.out
              clear h1
              go_wp2_with fail
              go_ret
              exact ⟨by first | rfl | simp, HC1.out⟩
            | true =>
              cases p6 : (a.silent == b.silent) with
              | false =>
                go_enter Tryz.func16, Tryz.ntmps16
                go_wp2_with fail
                refine (SE.out _ HB0.out).mono ?_
                rintro e w1 ⟨rfl, h1⟩
                have HA1 := Lib.hid ((h1.block w.heap.size (by simp; omega)).trans HA.out)
                have HB1 := Lib.hid ((h1.block (w.heap.size + 1) (by simp)).trans HB.out)
                have HC1 := Lib.hid (below_next HB0.out h1)
                have x0 := cell_of_row _ _ 0 _ _ _ HA1.out
                have x1 := cell_of_row _ _ 1 _ _ _ HA1.out
                have x2 := cell_of_row _ _ 2 _ _ _ HA1.out
                have x3 := cell_of_row _ _ 3 _ _ _ HA1.out
                have x4 := cell_of_row _ _ 4 _ _ _ HA1.out
                have x5 := cell_of_row _ _ 5 _ _ _ HA1.out
                have x6 := cell_of_row _ _ 6 _ _ _ HA1.out
                have x7 := cell_of_row _ _ 7 _ _ _ HA1.out
                have x8 := cell_of_row _ _ 8 _ _ _ HA1.out
                have y0 := cell_of_row _ _ 0 _ _ _ HB1.out
                have y1 := cell_of_row _ _ 1 _ _ _ HB1.out
                have y2 := cell_of_row _ _ 2 _ _ _ HB1.out
                have y3 := cell_of_row _ _ 3 _ _ _ HB1.out
                have y4 := cell_of_row _ _ 4 _ _ _ HB1.out
                have y5 := cell_of_row _ _ 5 _ _ _ HB1.out
                have y6 := cell_of_row _ _ 6 _ _ _ HB1.out
                have y7 := cell_of_row _ _ 7 _ _ _ HB1.out
                have y8 := cell_of_row _ _ 8 _ _ _ HB1.out
                clear h1
                go_wp2_with fail
                go_ret
                exact ⟨by first | rfl | simp, HC1.out⟩
              | true =>
                cases p7 : (a.flags == b.flags) with
                | false =>
                  go_enter Tryz.func16, Tryz.ntmps16
                  go_wp2_with fail
                  refine (SE.out _ HB0.out).mono ?_
                  rintro e w1 ⟨rfl, h1⟩
                  have HA1 := Lib.hid ((h1.block w.heap.size (by simp; omega)).trans HA.out)
                  have HB1 := Lib.hid ((h1.block (w.heap.size + 1) (by simp)).trans HB.out)
                  have HC1 := Lib.hid (below_next HB0.out h1)
                  have x0 := cell_of_row _ _ 0 _ _ _ HA1.out
                  have x1 := cell_of_row _ _ 1 _ _ _ HA1.out
                  have x2 := cell_of_row _ _ 2 _ _ _ HA1.out
                  have x3 := cell_of_row _ _ 3 _ _ _ HA1.out
                  have x4 := cell_of_row _ _ 4 _ _ _ HA1.out
                  have x5 := cell_of_row _ _ 5 _ _ _ HA1.out
                  have x6 := cell_of_row _ _ 6 _ _ _ HA1.out
                  have x7 := cell_of_row _ _ 7 _ _ _ HA1.out
                  have x8 := cell_of_row _ _ 8 _ _ _ HA1.out
                  have y0 := cell_of_row _ _ 0 _ _ _ HB1.out
                  have y1 := cell_of_row _ _ 1 _ _ _ HB1.out
                  have y2 := cell_of_row _ _ 2 _ _ _ HB1.out
                  have y3 := cell_of_row _ _ 3 _ _ _ HB1.out
                  have y4 := cell_of_row _ _ 4 _ _ _ HB1.out
                  have y5 := cell_of_row _ _ 5 _ _ _ HB1.out
                  have y6 := cell_of_row _ _ 6 _ _ _ HB1.out
                  have y7 := cell_of_row _ _ 7 _ _ _ HB1.out
                  have y8 := cell_of_row _ _ 8 _ _ _ HB1.out
                  clear h1
                  go_wp2_with fail
                  go_ret
                  exact ⟨by first | rfl | simp, HC1.out⟩
                | true =>
                  go_enter Tryz.func16, Tryz.ntmps16
                  go_wp2_with fail
                  refine (SE.out _ HB0.out).mono ?_
                  rintro e w1 ⟨rfl, h1⟩
                  have HA1 := Lib.hid ((h1.block w.heap.size (by simp; omega)).trans HA.out)
                  have HB1 := Lib.hid ((h1.block (w.heap.size + 1) (by simp)).trans HB.out)
                  have HC1 := Lib.hid (below_next HB0.out h1)
                  have x0 := cell_of_row _ _ 0 _ _ _ HA1.out
                  have x1 := cell_of_row _ _ 1 _ _ _ HA1.out
                  have x2 := cell_of_row _ _ 2 _ _ _ HA1.out
                  have x3 := cell_of_row _ _ 3 _ _ _ HA1.out
                  have x4 := cell_of_row _ _ 4 _ _ _ HA1.out
                  have x5 := cell_of_row _ _ 5 _ _ _ HA1.out
                  have x6 := cell_of_row _ _ 6 _ _ _ HA1.out
                  have x7 := cell_of_row _ _ 7 _ _ _ HA1.out
                  have x8 := cell_of_row _ _ 8 _ _ _ HA1.out
                  have y0 := cell_of_row _ _ 0 _ _ _ HB1.out
                  have y1 := cell_of_row _ _ 1 _ _ _ HB1.out
                  have y2 := cell_of_row _ _ 2 _ _ _ HB1.out
                  have y3 := cell_of_row _ _ 3 _ _ _ HB1.out
                  have y4 := cell_of_row _ _ 4 _ _ _ HB1.out
                  have y5 := cell_of_row _ _ 5 _ _ _ HB1.out
                  have y6 := cell_of_row _ _ 6 _ _ _ HB1.out
                  have y7 := cell_of_row _ _ 7 _ _ _ HB1.out
                  have y8 := cell_of_row _ _ 8 _ _ _ HB1.out
                  clear h1
                  go_wp2_with fail
                  refine (BE.out _ HC1.out).mono ?_
                  rintro e w2 ⟨rfl, rfl⟩
                  go_wp2_with fail
                  go_ret
                  exact ⟨by first | rfl | simp, HC1.out⟩
end Go.Proofs.YthfopimgdikpgaaGreatDoor
