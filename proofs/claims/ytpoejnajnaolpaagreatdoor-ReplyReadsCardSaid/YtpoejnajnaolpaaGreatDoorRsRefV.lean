/- The reference of layer 9: Valid, but for fetched responses. -/
import Derived.Test.YtpoejnajnaolpaaGreatDoorRsSameR
import Derived.Test.YtpoejnajnaolpaaGreatDoorGf
namespace Go.Proofs.YtpoejnajnaolpaaGreatDoor
open Go.RowKit


set_option maxRecDepth 100000 in
set_option maxHeartbeats 4000000 in
theorem rv1 (r : RI) (A : Option Addr) (k : Nat) (hk : r.kind = 1) (w : World) (hA : ByAt w.heap.size w A k r.body) :
    Calls Tryz.prog 18 #[rsV r A k] w fun e w' => e = .returned (.bool (rsOk r)) ∧ Below w.heap.size w w' := by
  have SM := fun W (hW : Below w.heap.size w W) => rsame9_any r ⟨1, r.n, [], 0, [], 0, 0, 0, 0, []⟩ A none k 0 W (hA.below hW).here (ByAt.nil _ _ _ _)
  unfold rsV at *
  have HO := Lib.hid (show rsOk r = rsSame r ⟨1, r.n, [], 0, [], 0, 0, 0, 0, []⟩ by unfold rsOk rsFit rsOwn; simp [hk])
  rw [hk] at SM
  have SM := Lib.hid SM
  rw [HO.out]
  have HK := Lib.hid hk
  rw [hk]
  clear hk hA
  go_enter Tryz.func18, Tryz.ntmps18
  go_wp2_with fail
  refine (SM.out _ (below_2box _ _ _)).mono ?_
  rintro e w1 ⟨rfl, hb⟩
  have HB := Lib.hid (below_next (below_2box w _ _) hb)
  clear hb
  go_wp2_with fail
  go_ret
  exact ⟨rfl, HB.out⟩

set_option maxRecDepth 100000 in
set_option maxHeartbeats 4000000 in
theorem rv2 (r : RI) (A : Option Addr) (k : Nat) (hk : r.kind = 2) (w : World) (hA : ByAt w.heap.size w A k r.body) :
    Calls Tryz.prog 18 #[rsV r A k] w fun e w' => e = .returned (.bool (rsOk r)) ∧ Below w.heap.size w w' := by
  have SM := fun W (hW : Below w.heap.size w W) => rsame9_any r ⟨2, r.n, [], 0, [], 0, 0, 0, 0, []⟩ A none k 0 W (hA.below hW).here (ByAt.nil _ _ _ _)
  unfold rsV at *
  have HO := Lib.hid (show rsOk r = rsSame r ⟨2, r.n, [], 0, [], 0, 0, 0, 0, []⟩ by unfold rsOk rsFit rsOwn; simp [hk])
  rw [hk] at SM
  have SM := Lib.hid SM
  rw [HO.out]
  have HK := Lib.hid hk
  rw [hk]
  clear hk hA
  go_enter Tryz.func18, Tryz.ntmps18
  go_wp2_with fail
  refine (SM.out _ (below_2box _ _ _)).mono ?_
  rintro e w1 ⟨rfl, hb⟩
  have HB := Lib.hid (below_next (below_2box w _ _) hb)
  clear hb
  go_wp2_with fail
  go_ret
  exact ⟨rfl, HB.out⟩

set_option maxRecDepth 100000 in
set_option maxHeartbeats 4000000 in
theorem rv3 (r : RI) (A : Option Addr) (k : Nat) (hk : r.kind = 3) (w : World) (hA : ByAt w.heap.size w A k r.body) :
    Calls Tryz.prog 18 #[rsV r A k] w fun e w' => e = .returned (.bool (rsOk r)) ∧ Below w.heap.size w w' := by
  have SM := fun W (hW : Below w.heap.size w W) => rsame9_any r ⟨3, r.n, [], 0, [], 0, 0, 0, 0, []⟩ A none k 0 W (hA.below hW).here (ByAt.nil _ _ _ _)
  unfold rsV at *
  have HO := Lib.hid (show rsOk r = rsSame r ⟨3, r.n, [], 0, [], 0, 0, 0, 0, []⟩ by unfold rsOk rsFit rsOwn; simp [hk])
  rw [hk] at SM
  have SM := Lib.hid SM
  rw [HO.out]
  have HK := Lib.hid hk
  rw [hk]
  clear hk hA
  go_enter Tryz.func18, Tryz.ntmps18
  go_wp2_with fail
  refine (SM.out _ (below_2box _ _ _)).mono ?_
  rintro e w1 ⟨rfl, hb⟩
  have HB := Lib.hid (below_next (below_2box w _ _) hb)
  clear hb
  go_wp2_with fail
  go_ret
  exact ⟨rfl, HB.out⟩

set_option maxRecDepth 100000 in
set_option maxHeartbeats 4000000 in
theorem rv5 (r : RI) (A : Option Addr) (k : Nat) (hk : r.kind = 5) (w : World) (hA : ByAt w.heap.size w A k r.body) :
    Calls Tryz.prog 18 #[rsV r A k] w fun e w' => e = .returned (.bool (rsOk r)) ∧ Below w.heap.size w w' := by
  have SM := fun W (hW : Below w.heap.size w W) => rsame9_any r ⟨5, 0, [], 0, [], 0, 0, 0, 0, []⟩ A none k 0 W (hA.below hW).here (ByAt.nil _ _ _ _)
  unfold rsV at *
  have HO := Lib.hid (show rsOk r = rsSame r ⟨5, 0, [], 0, [], 0, 0, 0, 0, []⟩ by unfold rsOk rsFit rsOwn; simp [hk])
  rw [hk] at SM
  have SM := Lib.hid SM
  rw [HO.out]
  have HK := Lib.hid hk
  rw [hk]
  clear hk hA
  go_enter Tryz.func18, Tryz.ntmps18
  go_wp2_with fail
  refine (SM.out _ (below_2box _ _ _)).mono ?_
  rintro e w1 ⟨rfl, hb⟩
  have HB := Lib.hid (below_next (below_2box w _ _) hb)
  clear hb
  go_wp2_with fail
  go_ret
  exact ⟨rfl, HB.out⟩

set_option maxRecDepth 100000 in
set_option maxHeartbeats 4000000 in
theorem rv6 (r : RI) (A : Option Addr) (k : Nat) (hk : r.kind = 6) (hs : RIsm r) (w : World) (hA : ByAt w.heap.size w A k r.body) :
    Calls Tryz.prog 18 #[rsV r A k] w fun e w' => e = .returned (.bool (rsOk r)) ∧ Below w.heap.size w w' := by
  have SM := fun W (hW : Below w.heap.size w W) => rsame9_any r ⟨6, 0, [], 0, r.text, 0, 0, 0, 0, []⟩ A none k 0 W (hA.below hW).here (ByAt.nil _ _ _ _)
  unfold rsV at *
  have HO := Lib.hid (show rsOk r = (txtL r.text && rsSame r ⟨6, 0, [], 0, r.text, 0, 0, 0, 0, []⟩) by unfold rsOk rsFit rsOwn; simp [hk])
  rw [hk] at SM
  have SM := Lib.hid SM
  have IT := fun W => isText_any ⟨r.text.toArray⟩ (by have := hs.text; simp [ByteArray.size]; omega) W
  have HT := Lib.hid (show allL textN (ByteArray.mk r.text.toArray).data.toList = txtL r.text from rfl)
  rw [HT.out] at IT
  rw [HO.out, hk]
  clear hk hA hs
  cases hq : txtL r.text with
  | false =>
    rw [hq] at IT
    have IT := Lib.hid IT
    clear hq
    go_enter Tryz.func18, Tryz.ntmps18
    go_wp2_with fail
    refine (IT.out _).mono ?_
    rintro e w1 ⟨rfl, rfl⟩
    go_wp2_with fail
    go_ret
    exact ⟨rfl, below_2box _ _ _⟩
  | true =>
    rw [hq] at IT
    have IT := Lib.hid IT
    clear hq
    go_enter Tryz.func18, Tryz.ntmps18
    go_wp2_with fail
    refine (IT.out _).mono ?_
    rintro e w1 ⟨rfl, rfl⟩
    go_wp2_with fail
    refine (SM.out _ (below_2box _ _ _)).mono ?_
    rintro e w1 ⟨rfl, hb⟩
    have HB := Lib.hid (below_next (below_2box w _ _) hb)
    clear hb
    go_wp2_with fail
    go_ret
    exact ⟨rfl, HB.out⟩

set_option maxRecDepth 100000 in
set_option maxHeartbeats 4000000 in
theorem rv7 (r : RI) (A : Option Addr) (k : Nat) (hk : r.kind = 7) (hs : RIsm r) (w : World) (hA : ByAt w.heap.size w A k r.body) :
    Calls Tryz.prog 18 #[rsV r A k] w fun e w' => e = .returned (.bool (rsOk r)) ∧ Below w.heap.size w w' := by
  have SM := fun W (hW : Below w.heap.size w W) => rsame9_any r ⟨7, 0, [], 0, r.text, 0, 0, 0, 0, []⟩ A none k 0 W (hA.below hW).here (ByAt.nil _ _ _ _)
  unfold rsV at *
  have HO := Lib.hid (show rsOk r = (txtL r.text && rsSame r ⟨7, 0, [], 0, r.text, 0, 0, 0, 0, []⟩) by unfold rsOk rsFit rsOwn; simp [hk])
  rw [hk] at SM
  have SM := Lib.hid SM
  have IT := fun W => isText_any ⟨r.text.toArray⟩ (by have := hs.text; simp [ByteArray.size]; omega) W
  have HT := Lib.hid (show allL textN (ByteArray.mk r.text.toArray).data.toList = txtL r.text from rfl)
  rw [HT.out] at IT
  rw [HO.out, hk]
  clear hk hA hs
  cases hq : txtL r.text with
  | false =>
    rw [hq] at IT
    have IT := Lib.hid IT
    clear hq
    go_enter Tryz.func18, Tryz.ntmps18
    go_wp2_with fail
    refine (IT.out _).mono ?_
    rintro e w1 ⟨rfl, rfl⟩
    go_wp2_with fail
    go_ret
    exact ⟨rfl, below_2box _ _ _⟩
  | true =>
    rw [hq] at IT
    have IT := Lib.hid IT
    clear hq
    go_enter Tryz.func18, Tryz.ntmps18
    go_wp2_with fail
    refine (IT.out _).mono ?_
    rintro e w1 ⟨rfl, rfl⟩
    go_wp2_with fail
    refine (SM.out _ (below_2box _ _ _)).mono ?_
    rintro e w1 ⟨rfl, hb⟩
    have HB := Lib.hid (below_next (below_2box w _ _) hb)
    clear hb
    go_wp2_with fail
    go_ret
    exact ⟨rfl, HB.out⟩

set_option maxRecDepth 100000 in
set_option maxHeartbeats 4000000 in
theorem rv8 (r : RI) (A : Option Addr) (k : Nat) (hk : r.kind = 8) (hs : RIsm r) (w : World) (hA : ByAt w.heap.size w A k r.body) :
    Calls Tryz.prog 18 #[rsV r A k] w fun e w' => e = .returned (.bool (rsOk r)) ∧ Below w.heap.size w w' := by
  have SM := fun W (hW : Below w.heap.size w W) => rsame9_any r ⟨8, 0, [], 0, r.text, 0, 0, 0, 0, []⟩ A none k 0 W (hA.below hW).here (ByAt.nil _ _ _ _)
  unfold rsV at *
  have HO := Lib.hid (show rsOk r = (txtL r.text && rsSame r ⟨8, 0, [], 0, r.text, 0, 0, 0, 0, []⟩) by unfold rsOk rsFit rsOwn; simp [hk])
  rw [hk] at SM
  have SM := Lib.hid SM
  have IT := fun W => isText_any ⟨r.text.toArray⟩ (by have := hs.text; simp [ByteArray.size]; omega) W
  have HT := Lib.hid (show allL textN (ByteArray.mk r.text.toArray).data.toList = txtL r.text from rfl)
  rw [HT.out] at IT
  rw [HO.out, hk]
  clear hk hA hs
  cases hq : txtL r.text with
  | false =>
    rw [hq] at IT
    have IT := Lib.hid IT
    clear hq
    go_enter Tryz.func18, Tryz.ntmps18
    go_wp2_with fail
    refine (IT.out _).mono ?_
    rintro e w1 ⟨rfl, rfl⟩
    go_wp2_with fail
    go_ret
    exact ⟨rfl, below_2box _ _ _⟩
  | true =>
    rw [hq] at IT
    have IT := Lib.hid IT
    clear hq
    go_enter Tryz.func18, Tryz.ntmps18
    go_wp2_with fail
    refine (IT.out _).mono ?_
    rintro e w1 ⟨rfl, rfl⟩
    go_wp2_with fail
    refine (SM.out _ (below_2box _ _ _)).mono ?_
    rintro e w1 ⟨rfl, hb⟩
    have HB := Lib.hid (below_next (below_2box w _ _) hb)
    clear hb
    go_wp2_with fail
    go_ret
    exact ⟨rfl, HB.out⟩

set_option maxRecDepth 100000 in
set_option maxHeartbeats 4000000 in
theorem rv10 (r : RI) (A : Option Addr) (k : Nat) (hk : r.kind = 10) (hs : RIsm r) (w : World) (hA : ByAt w.heap.size w A k r.body) :
    Calls Tryz.prog 18 #[rsV r A k] w fun e w' => e = .returned (.bool (rsOk r)) ∧ Below w.heap.size w w' := by
  have SM := fun W (hW : Below w.heap.size w W) => rsame9_any r ⟨10, 0, [], 0, r.text, 0, 0, 0, 0, []⟩ A none k 0 W (hA.below hW).here (ByAt.nil _ _ _ _)
  unfold rsV at *
  have HO := Lib.hid (show rsOk r = (txtL r.text && rsSame r ⟨10, 0, [], 0, r.text, 0, 0, 0, 0, []⟩) by unfold rsOk rsFit rsOwn; simp [hk])
  rw [hk] at SM
  have SM := Lib.hid SM
  have IT := fun W => isText_any ⟨r.text.toArray⟩ (by have := hs.text; simp [ByteArray.size]; omega) W
  have HT := Lib.hid (show allL textN (ByteArray.mk r.text.toArray).data.toList = txtL r.text from rfl)
  rw [HT.out] at IT
  rw [HO.out, hk]
  clear hk hA hs
  cases hq : txtL r.text with
  | false =>
    rw [hq] at IT
    have IT := Lib.hid IT
    clear hq
    go_enter Tryz.func18, Tryz.ntmps18
    go_wp2_with fail
    refine (IT.out _).mono ?_
    rintro e w1 ⟨rfl, rfl⟩
    go_wp2_with fail
    go_ret
    exact ⟨rfl, below_2box _ _ _⟩
  | true =>
    rw [hq] at IT
    have IT := Lib.hid IT
    clear hq
    go_enter Tryz.func18, Tryz.ntmps18
    go_wp2_with fail
    refine (IT.out _).mono ?_
    rintro e w1 ⟨rfl, rfl⟩
    go_wp2_with fail
    refine (SM.out _ (below_2box _ _ _)).mono ?_
    rintro e w1 ⟨rfl, hb⟩
    have HB := Lib.hid (below_next (below_2box w _ _) hb)
    clear hb
    go_wp2_with fail
    go_ret
    exact ⟨rfl, HB.out⟩

set_option maxRecDepth 100000 in
set_option maxHeartbeats 4000000 in
theorem rv9 (r : RI) (A : Option Addr) (k : Nat) (hk : r.kind = 9) (hs : RIsm r) (w : World) (hA : ByAt w.heap.size w A k r.body) :
    Calls Tryz.prog 18 #[rsV r A k] w fun e w' => e = .returned (.bool (rsOk r)) ∧ Below w.heap.size w w' := by
  have SM := fun W (hW : Below w.heap.size w W) => rsame9_any r ⟨9, 0, r.tag, r.status, r.text, 0, 0, 0, 0, []⟩ A none k 0 W (hA.below hW).here (ByAt.nil _ _ _ _)
  unfold rsV at *
  have HO := Lib.hid (show rsOk r = (tgL r.tag && (txtL r.text && decide (0 ≤ r.status ∧ r.status ≤ 2)) && rsSame r ⟨9, 0, r.tag, r.status, r.text, 0, 0, 0, 0, []⟩) by unfold rsOk rsFit rsOwn; simp [hk])
  rw [hk] at SM
  have SM := Lib.hid SM
  have IT := fun W => isText_any ⟨r.text.toArray⟩ (by have := hs.text; simp [ByteArray.size]; omega) W
  have IG := fun W => isTag_any ⟨r.tag.toArray⟩ (by have := hs.tag; simp [ByteArray.size]; omega) W
  have HT := Lib.hid (show allL textN (ByteArray.mk r.text.toArray).data.toList = txtL r.text from rfl)
  have HG := Lib.hid (show allL tagN (ByteArray.mk r.tag.toArray).data.toList = tgL r.tag from rfl)
  rw [HT.out] at IT
  rw [HG.out] at IG
  rw [HO.out, hk]
  clear hk hA hs
  cases hg : tgL r.tag with
  | false =>
    have R := Lib.hid (show (false && (txtL r.text && decide (0 ≤ r.status ∧ r.status ≤ 2)) && rsSame r ⟨9, 0, r.tag, r.status, r.text, 0, 0, 0, 0, []⟩) = false by simp)
    rw [hg] at IG
    have IG := Lib.hid IG
    clear hg IT
    go_enter Tryz.func18, Tryz.ntmps18
    go_wp2_with fail
    refine (IG.out _).mono ?_
    rintro e w1 ⟨rfl, rfl⟩
    go_wp2_with fail
    go_ret
    exact ⟨ret_bool R.out.symm, below_2box _ _ _⟩
  | true =>
    rw [hg] at IG
    have IG := Lib.hid IG
    clear hg
    cases hq : txtL r.text with
    | false =>
      have R := Lib.hid (show (true && (false && decide (0 ≤ r.status ∧ r.status ≤ 2)) && rsSame r ⟨9, 0, r.tag, r.status, r.text, 0, 0, 0, 0, []⟩) = false by simp)
      rw [hq] at IT
      have IT := Lib.hid IT
      clear hq
      go_enter Tryz.func18, Tryz.ntmps18
      go_wp2_with fail
      refine (IG.out _).mono ?_
      rintro e w1 ⟨rfl, rfl⟩
      go_wp2_with fail
      refine (IT.out _).mono ?_
      rintro e w1 ⟨rfl, rfl⟩
      go_wp2_with fail
      go_ret
      exact ⟨ret_bool R.out.symm, below_2box _ _ _⟩
    | true =>
      rw [hq] at IT
      have IT := Lib.hid IT
      clear hq
      by_cases h0 : 0 ≤ r.status
      · by_cases h2 : r.status ≤ 2
        · have R := Lib.hid (show (true && (true && decide (0 ≤ r.status ∧ r.status ≤ 2)) && rsSame r ⟨9, 0, r.tag, r.status, r.text, 0, 0, 0, 0, []⟩) = rsSame r ⟨9, 0, r.tag, r.status, r.text, 0, 0, 0, 0, []⟩ by rw [decide_eq_true ⟨h0, h2⟩]; simp)
          go_enter Tryz.func18, Tryz.ntmps18
          go_wp2_with fail
          refine (IG.out _).mono ?_
          rintro e w1 ⟨rfl, rfl⟩
          go_wp2_with fail
          refine (IT.out _).mono ?_
          rintro e w1 ⟨rfl, rfl⟩
          go_wp2_with fail
          refine (SM.out _ (below_2box _ _ _)).mono ?_
          rintro e w1 ⟨rfl, hb⟩
          have HB := Lib.hid (below_next (below_2box w _ _) hb)
          clear hb
          go_wp2_with fail
          go_ret
          exact ⟨ret_bool R.out.symm, HB.out⟩
        · have R := Lib.hid (show (true && (true && decide (0 ≤ r.status ∧ r.status ≤ 2)) && rsSame r ⟨9, 0, r.tag, r.status, r.text, 0, 0, 0, 0, []⟩) = false by rw [decide_eq_false (by omega)]; simp)
          have d2 : decide (r.status ≤ 2) = false := by simpa using h2
          go_enter Tryz.func18, Tryz.ntmps18
          go_wp2_with fail
          refine (IG.out _).mono ?_
          rintro e w1 ⟨rfl, rfl⟩
          go_wp2_with fail
          refine (IT.out _).mono ?_
          rintro e w1 ⟨rfl, rfl⟩
          go_wp2_with fail
          go_ret
          exact ⟨ret_bool R.out.symm, below_2box _ _ _⟩
      · have R := Lib.hid (show (true && (true && decide (0 ≤ r.status ∧ r.status ≤ 2)) && rsSame r ⟨9, 0, r.tag, r.status, r.text, 0, 0, 0, 0, []⟩) = false by rw [decide_eq_false (by omega)]; simp)
        have d2 : decide (0 ≤ r.status) = false := by simpa using h0
        go_enter Tryz.func18, Tryz.ntmps18
        go_wp2_with fail
        refine (IG.out _).mono ?_
        rintro e w1 ⟨rfl, rfl⟩
        go_wp2_with fail
        refine (IT.out _).mono ?_
        rintro e w1 ⟨rfl, rfl⟩
        go_wp2_with fail
        go_ret
        exact ⟨ret_bool R.out.symm, below_2box _ _ _⟩

set_option maxRecDepth 100000 in
set_option maxHeartbeats 4000000 in
theorem rv0 (r : RI) (A : Option Addr) (k : Nat) (hk : ¬ (1 ≤ r.kind ∧ r.kind ≤ 10)) (w : World) :
    Calls Tryz.prog 18 #[rsV r A k] w fun e w' => e = .returned (.bool (rsOk r)) ∧ Below w.heap.size w w' := by
  have HO := Lib.hid (show rsOk r = false by
    unfold rsOk rsFit
    rw [if_neg (by omega), if_neg (by omega), if_neg (by omega), if_neg (by omega), if_neg (by omega)]
    rfl)
  have n1 : (r.kind == 1) = false := by simp; omega
  have n2 : (r.kind == 2) = false := by simp; omega
  have n3 : (r.kind == 3) = false := by simp; omega
  have n4 : (r.kind == 4) = false := by simp; omega
  have n5 : (r.kind == 5) = false := by simp; omega
  have n6 : (r.kind == 6) = false := by simp; omega
  have n7 : (r.kind == 7) = false := by simp; omega
  have n8 : (r.kind == 8) = false := by simp; omega
  have n9 : (r.kind == 9) = false := by simp; omega
  have n10 : (r.kind == 10) = false := by simp; omega
  unfold rsV
  rw [HO.out]
  generalize r.kind = kd at *
  clear hk
  go_enter Tryz.func18, Tryz.ntmps18
  go_wp2_with fail
  go_ret
  exact ⟨rfl, below_2box _ _ _⟩
end Go.Proofs.YtpoejnajnaolpaaGreatDoor
