/- Same, of the reference. -/
import Derived.Test.YthfopimgdikpgaaGreatDoorSame7
import Derived.LoopNIn
namespace Go.Proofs.YthfopimgdikpgaaGreatDoor
open Go.RowKit

theorem sameC_len {a b : CI} (h : a.set.length ≠ b.set.length) : sameC a b = false := by
  unfold sameC
  rw [show (a.set == b.set) = false from beq_false_of_ne (fun e => h (by rw [e]))]
  simp
theorem sameC_set {a b : CI} (h : a.set ≠ b.set) : sameC a b = false := by
  unfold sameC
  rw [show (a.set == b.set) = false from beq_false_of_ne h]
  simp
theorem sameC_data {a b : CI} (h : a.data ≠ b.data) : sameC a b = false := by
  unfold sameC
  rw [show (a.data == b.data) = false from beq_false_of_ne h]
  simp
theorem sameC_rest {a b : CI} (h1 : a.set = b.set) (h2 : a.data = b.data) : sameC a b = (a.tag == b.tag && (a.kind == b.kind && (a.mbox == b.mbox && (a.items == b.items && (a.mode == b.mode && (a.silent == b.silent && a.flags == b.flags)))))) := by
  unfold sameC
  rw [h1, h2]
  simp

set_option maxRecDepth 100000 in
set_option maxHeartbeats 4000000 in
theorem rsame_any (a b : CI) (A1 A2 A3 A4 : Option Addr) (n1 k1 n2 k2 n3 k3 n4 k4 : Nat) (e1 : a.set.length = n1) (e2 : a.data.length = n2) (e3 : b.set.length = n3) (e4 : b.data.length = n4) (l1 : n1 ≤ 1000000) (_l2 : n2 ≤ 1000000) (l3 : n3 ≤ 1000000) (_l4 : n4 ≤ 1000000) (w : World) (s1 : SlAt encR 2 w A1 a.set) (s2 : ByAt w.heap.size w A2 k2 a.data) (s3 : SlAt encR 2 w A3 b.set) (s4 : ByAt w.heap.size w A4 k4 b.data) :
    Calls Tryz.prog 12 #[.agg #[.string ⟨a.tag.toArray⟩, .int .i64 a.kind, .string ⟨a.mbox.toArray⟩, .slice A1 n1 k1, .int .i64 a.items, .int .i64 a.mode, .bool a.silent, .int .u8 a.flags, .slice A2 n2 k2], .agg #[.string ⟨b.tag.toArray⟩, .int .i64 b.kind, .string ⟨b.mbox.toArray⟩, .slice A3 n3 k3, .int .i64 b.items, .int .i64 b.mode, .bool b.silent, .int .u8 b.flags, .slice A4 n4 k4]] w fun e w' => e = .returned (.bool (sameC a b)) ∧ Below w.heap.size w w' := by
  have B0 := below_next (below_al w (.cells #[.string ⟨a.tag.toArray⟩, .int .i64 a.kind, .string ⟨a.mbox.toArray⟩, .slice A1 n1 k1, .int .i64 a.items, .int .i64 a.mode, .bool a.silent, .int .u8 a.flags, .slice A2 n2 k2] 27)) (below_al _ (.cells #[.string ⟨b.tag.toArray⟩, .int .i64 b.kind, .string ⟨b.mbox.toArray⟩, .slice A3 n3 k3, .int .i64 b.items, .int .i64 b.mode, .bool b.silent, .int .u8 b.flags, .slice A4 n4 k4] 27))
  have ha := ((below_al (w.alloc (.cells #[.string ⟨a.tag.toArray⟩, .int .i64 a.kind, .string ⟨a.mbox.toArray⟩, .slice A1 n1 k1, .int .i64 a.items, .int .i64 a.mode, .bool a.silent, .int .u8 a.flags, .slice A2 n2 k2] 27)) (.cells #[.string ⟨b.tag.toArray⟩, .int .i64 b.kind, .string ⟨b.mbox.toArray⟩, .slice A3 n3 k3, .int .i64 b.items, .int .i64 b.mode, .bool b.silent, .int .u8 b.flags, .slice A4 n4 k4] 27)).block w.heap.size (by simp)).trans (heap_alloc_new w (.cells #[.string ⟨a.tag.toArray⟩, .int .i64 a.kind, .string ⟨a.mbox.toArray⟩, .slice A1 n1 k1, .int .i64 a.items, .int .i64 a.mode, .bool a.silent, .int .u8 a.flags, .slice A2 n2 k2] 27))
  have hb := heap_alloc_new (w.alloc (.cells #[.string ⟨a.tag.toArray⟩, .int .i64 a.kind, .string ⟨a.mbox.toArray⟩, .slice A1 n1 k1, .int .i64 a.items, .int .i64 a.mode, .bool a.silent, .int .u8 a.flags, .slice A2 n2 k2] 27)) (.cells #[.string ⟨b.tag.toArray⟩, .int .i64 b.kind, .string ⟨b.mbox.toArray⟩, .slice A3 n3 k3, .int .i64 b.items, .int .i64 b.mode, .bool b.silent, .int .u8 b.flags, .slice A4 n4 k4] 27)
  rw [World.size_alloc] at hb
  have HB0 := Lib.hid B0
  by_cases hlen : n1 = n3
  rotate_left
  · have R := Lib.hid (sameC_len (a := a) (b := b) (by rw [e1, e3]; exact hlen))
    have hi : ((n1 : Int) != (n3 : Int)) = true := by simpa using (fun e : (n1 : Int) = n3 => hlen (by omega))
    have hi2 : ¬ (n1 : Int) = (n3 : Int) := fun e => hlen (by omega)
    clear s1 s2 s3 s4 e1 e2 e3 e4 ha hb B0 hlen
    go_enter Tryz.func12, Tryz.ntmps12
    go_wp2_with fail
    go_ret
    exact ⟨ret_bool R.out.symm, HB0.out⟩
  subst hlen
  have c1 := convS _ ((w.alloc (.cells #[.string ⟨a.tag.toArray⟩, .int .i64 a.kind, .string ⟨a.mbox.toArray⟩, .slice A1 n1 k1, .int .i64 a.items, .int .i64 a.mode, .bool a.silent, .int .u8 a.flags, .slice A2 n2 k2] 27)).alloc (.cells #[.string ⟨b.tag.toArray⟩, .int .i64 b.kind, .string ⟨b.mbox.toArray⟩, .slice A3 n1 k3, .int .i64 b.items, .int .i64 b.mode, .bool b.silent, .int .u8 b.flags, .slice A4 n4 k4] 27)) A2 k2 n2 a.data (s2.below B0) e2
  have c2 := convS _ ((w.alloc (.cells #[.string ⟨a.tag.toArray⟩, .int .i64 a.kind, .string ⟨a.mbox.toArray⟩, .slice A1 n1 k1, .int .i64 a.items, .int .i64 a.mode, .bool a.silent, .int .u8 a.flags, .slice A2 n2 k2] 27)).alloc (.cells #[.string ⟨b.tag.toArray⟩, .int .i64 b.kind, .string ⟨b.mbox.toArray⟩, .slice A3 n1 k3, .int .i64 b.items, .int .i64 b.mode, .bool b.silent, .int .u8 b.flags, .slice A4 n4 k4] 27)) A4 k4 n4 b.data (s4.below B0) e4
  cases hdq : (a.data == b.data) with
  | false =>
    have R := Lib.hid (sameC_data (a := a) (b := b) (by simpa using hdq))
    have hd2 : (a.data != b.data) = true := by simp [bne, hdq]
    clear s1 s2 s3 s4 e1 e2 e3 e4 ha hb B0
    go_enter Tryz.func12, Tryz.ntmps12
    go_wp2_with fail
    go_ret
    exact ⟨ret_bool R.out.symm, HB0.out⟩
  | true =>
    have hd2 : (a.data != b.data) = false := by simp [bne, hdq]
    have hde : a.data = b.data := by simpa using hdq
    have HDE := Lib.hid hde
    have HS1 := Lib.hid (fun W (hB : Below w.heap.size w W) => s1.below hB)
    have HS3 := Lib.hid (fun W (hB : Below w.heap.size w W) => s3.below hB)
    have HA := Lib.hid ha
    have HB := Lib.hid hb
    have HN := Lib.hid e1
    have HN3 := Lib.hid e3
    clear s1 s2 s3 s4 e1 e2 e3 e4 ha hb B0 hde
    generalize hq : sameC a b = q at *
    have HQ := Lib.hid hq
    clear hq
    go_enter Tryz.func12, Tryz.ntmps12
    go_wp2_with fail
    clear c1 c2
    have hz0 : ((w.alloc (.cells #[.string ⟨a.tag.toArray⟩, .int .i64 a.kind, .string ⟨a.mbox.toArray⟩, .slice A1 n1 k1, .int .i64 a.items, .int .i64 a.mode, .bool a.silent, .int .u8 a.flags, .slice A2 n2 k2] 27)).alloc (.cells #[.string ⟨b.tag.toArray⟩, .int .i64 b.kind, .string ⟨b.mbox.toArray⟩, .slice A3 n1 k3, .int .i64 b.items, .int .i64 b.mode, .bool b.silent, .int .u8 b.flags, .slice A4 n4 k4] 27)).heap.size = w.heap.size + 2 := by simp
    generalize ((w.alloc (.cells #[.string ⟨a.tag.toArray⟩, .int .i64 a.kind, .string ⟨a.mbox.toArray⟩, .slice A1 n1 k1, .int .i64 a.items, .int .i64 a.mode, .bool a.silent, .int .u8 a.flags, .slice A2 n2 k2] 27)).alloc (.cells #[.string ⟨b.tag.toArray⟩, .int .i64 b.kind, .string ⟨b.mbox.toArray⟩, .slice A3 n1 k3, .int .i64 b.items, .int .i64 b.mode, .bool b.silent, .int .u8 b.flags, .slice A4 n4 k4] 27)) = W0 at *
    go_loopw [5] (fun i wr => ∃ k : Nat, k ≤ n1 ∧ i = .int .i64 (k : Int) ∧ Hid (a.set.take k = b.set.take k) ∧ Hid (Below W0.heap.size W0 wr)) (fun i _ => n1 - (intOf i).toNat)
    case atStart => exact ⟨0, Nat.zero_le _, rfl, Lib.hid rfl, Lib.hid (Below.refl _ _)⟩
    case round =>
      obtain ⟨k, hk, rfl, hE, hB⟩ := hrel
      have HA1 := Lib.hid ((hB.out.block w.heap.size (by omega)).trans HA.out)
      have HB1 := Lib.hid ((hB.out.block (w.heap.size + 1) (by omega)).trans HB.out)
      have HC1 := Lib.hid (below_next HB0.out hB.out)
      have x0 := cell_of_row _ _ 0 _ _ _ HA1.out
      have x1 := cell_of_row _ _ 1 _ _ _ HA1.out
      have x2 := cell_of_row _ _ 2 _ _ _ HA1.out
      have x3 := cell_of_row _ _ 3 _ _ _ HA1.out
      have x4 := cell_of_row _ _ 4 _ _ _ HA1.out
      have x5 := cell_of_row _ _ 5 _ _ _ HA1.out
      have x6 := cell_of_row _ _ 6 _ _ _ HA1.out
      have x7 := cell_of_row _ _ 7 _ _ _ HA1.out
      have x8 := cell_of_row _ _ 8 _ _ _ HA1.out
      have y0 := cell_of_row _ _ 0 _ _ _ HB1.out
      have y1 := cell_of_row _ _ 1 _ _ _ HB1.out
      have y2 := cell_of_row _ _ 2 _ _ _ HB1.out
      have y3 := cell_of_row _ _ 3 _ _ _ HB1.out
      have y4 := cell_of_row _ _ 4 _ _ _ HB1.out
      have y5 := cell_of_row _ _ 5 _ _ _ HB1.out
      have y6 := cell_of_row _ _ 6 _ _ _ HB1.out
      have y7 := cell_of_row _ _ 7 _ _ _ HB1.out
      have y8 := cell_of_row _ _ 8 _ _ _ HB1.out
      by_cases hlt : k < n1
      · obtain ⟨g, off, rfl, _, hc0, hc1⟩ := r_at (HS1.out _ HC1.out) (j := k) (by rw [HN.out]; exact hlt)
        obtain ⟨g2, off2, rfl, _, hd0, hd1⟩ := r_at (HS3.out _ HC1.out) (j := k) (by rw [HN3.out]; exact hlt)
        have hk0 : (0 : Int) ≤ (k : Int) := by omega
        have hk1 : (k : Int) < (n1 : Int) := by omega
        by_cases he : a.set[k]'(by rw [HN.out]; exact hlt) = b.set[k]'(by rw [HN3.out]; exact hlt)
        · have HS := Lib.hid (eqR_snoc hE.out (by rw [HN.out]; exact hlt) (by rw [HN3.out]; exact hlt) he)
          rw [← he] at hd0 hd1
          clear he
          generalize (a.set[k]'(by rw [HN.out]; exact hlt)).1 = x at *
          generalize (a.set[k]'(by rw [HN.out]; exact hlt)).2 = y at *
          go_wp2_with fail
          go_quiet (fail)
          go_wp2_with fail
          go_roundw
          case rel => exact ⟨k + 1, by omega, by go_num, HS, Lib.hid (below_next hB.out (drewN_below7 _ _))⟩
          case measure => simp [intOf]; omega
        · have HS := Lib.hid (show q = false by rw [← HQ.out]; exact sameC_set (fun e => he (by simp [e])))
          have hne : ¬ ((a.set[k]'(by rw [HN.out]; exact hlt)).1 = (b.set[k]'(by rw [HN3.out]; exact hlt)).1 ∧ (a.set[k]'(by rw [HN.out]; exact hlt)).2 = (b.set[k]'(by rw [HN3.out]; exact hlt)).2) := fun e => he (Prod.ext e.1 e.2)
          clear he
          generalize (a.set[k]'(by rw [HN.out]; exact hlt)).1 = x at *
          generalize (a.set[k]'(by rw [HN.out]; exact hlt)).2 = y at *
          generalize (b.set[k]'(by rw [HN3.out]; exact hlt)).1 = x2' at *
          generalize (b.set[k]'(by rw [HN3.out]; exact hlt)).2 = y2' at *
          by_cases hx : x = x2'
          · have hy : ¬ y = y2' := fun e => hne ⟨hx, e⟩
            subst hx
            have f2 : ((y : Int) == (y2' : Int)) = false := by simpa using (fun e : (y : Int) = y2' => hy (by omega))
            have f3 : ¬ ((y : Int) = (y2' : Int)) := fun e => hy (by omega)
            clear hne
            go_wp2_with fail
            go_quiet (fail)
            go_wp2_with fail
            go_ret
            exact ⟨ret_bool HS.out.symm, below_next HC1.out (drewN_below7 _ _)⟩
          · have f2 : ((x : Int) == (x2' : Int)) = false := by simpa using (fun e : (x : Int) = x2' => hx (by omega))
            have f3 : ¬ ((x : Int) = (x2' : Int)) := fun e => hx (by omega)
            clear hne
            go_wp2_with fail
            go_quiet (fail)
            go_wp2_with fail
            go_ret
            exact ⟨ret_bool HS.out.symm, below_next HC1.out (drewN_below7 _ _)⟩
      · obtain rfl : k = n1 := by omega
        have hse : a.set = b.set := by
          have := hE.out
          rw [List.take_of_length_le (by rw [HN.out]; exact Nat.le_refl _), List.take_of_length_le (by rw [HN3.out]; exact Nat.le_refl _)] at this
          exact this
        have R := Lib.hid (show _ = q from (sameC_rest hse HDE.out).symm.trans HQ.out)
        clear hse hE
        cases p0 : (a.tag == b.tag) with
        | false =>
          go_wp2_with fail
          go_ret
          exact ⟨by rw [← R.out]; simp [p0], HC1.out⟩
        | true =>
          cases p1 : (a.kind == b.kind) with
          | false =>
            go_wp2_with fail
            go_ret
            exact ⟨by rw [← R.out]; simp [p0, p1], HC1.out⟩
          | true =>
            cases p2 : (a.mbox == b.mbox) with
            | false =>
              go_wp2_with fail
              go_ret
              exact ⟨by rw [← R.out]; simp [p0, p1, p2], HC1.out⟩
            | true =>
              cases p3 : (a.items == b.items) with
              | false =>
                go_wp2_with fail
                go_ret
                exact ⟨by rw [← R.out]; simp [p0, p1, p2, p3], HC1.out⟩
              | true =>
                cases p4 : (a.mode == b.mode) with
                | false =>
                  go_wp2_with fail
                  go_ret
                  exact ⟨by rw [← R.out]; simp [p0, p1, p2, p3, p4], HC1.out⟩
                | true =>
                  cases p5 : (a.silent == b.silent) with
                  | false =>
                    go_wp2_with fail
                    go_ret
                    exact ⟨by rw [← R.out]; simp [p0, p1, p2, p3, p4, p5], HC1.out⟩
                  | true =>
                    go_wp2_with fail
                    go_ret
                    exact ⟨by rw [← R.out]; simp [p0, p1, p2, p3, p4, p5], HC1.out⟩
end Go.Proofs.YthfopimgdikpgaaGreatDoor
