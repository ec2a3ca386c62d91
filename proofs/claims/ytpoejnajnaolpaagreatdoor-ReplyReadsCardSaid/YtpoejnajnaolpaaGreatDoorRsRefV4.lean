/- The reference of layer 9: Valid, at fetched responses and at every response. -/
import Derived.Test.YtpoejnajnaolpaaGreatDoorRsRefV
import Derived.Deep.Cut
import Derived.Deep.DeepCutAuto
namespace Go.Proofs.YtpoejnajnaolpaaGreatDoor
open Go.RowKit

theorem am_by {q16 : Bool} {r : RI} {A : Option Addr} {k : Nat} {W : World} (hA : ByAt W.heap.size W A k r.body) :
    ByAt W.heap.size W (if q16 = true then A else none) (if q16 = true then k else 0) (if q16 = true then r.body else []) := by
  cases q16
  · exact ByAt.nil _ _ _ _
  · exact hA
set_option maxRecDepth 100000 in
set_option maxHeartbeats 4000000 in
theorem rv4 (r : RI) (A : Option Addr) (k : Nat) (hk : r.kind = 4) (hr : RIok r) (hs : RIsm r) (w : World) (hA : ByAt w.heap.size w A k r.body) :
    Calls Tryz.prog 18 #[rsV r A k] w fun e w' => e = .returned (.bool (rsOk r)) ∧ Below w.heap.size w w' := by
  obtain ⟨q1, h1⟩ : ∃ q, rsBit r.items 1 = q := ⟨_, rfl⟩
  obtain ⟨q2, h2⟩ : ∃ q, rsBit r.items 2 = q := ⟨_, rfl⟩
  obtain ⟨q4, h4⟩ : ∃ q, rsBit r.items 4 = q := ⟨_, rfl⟩
  obtain ⟨q16, h16⟩ : ∃ q, rsBit r.items 16 = q := ⟨_, rfl⟩
  have HO := Lib.hid (show rsOk r = (rsFit r && rsSame r ⟨4, r.n, [], 0, [], r.items, if q1 = true then r.flags else 0, if q2 = true then r.uid else 0, if q4 = true then r.size else 0, if q16 = true then r.body else []⟩) by unfold rsOk rsOwn rsAmong; simp [hk, h1, h2, h4, h16])
  have SM := fun W (hW : Below w.heap.size w W) => rsame9_any r ⟨4, r.n, [], 0, [], r.items, if q1 = true then r.flags else 0, if q2 = true then r.uid else 0, if q4 = true then r.size else 0, if q16 = true then r.body else []⟩ A (if q16 = true then A else none) k (if q16 = true then k else 0) W (hA.below hW).here (am_by (hA.below hW).here)
  have e1 : (bits BinOp.and IntKind.i64 r.items 1 != 0) = q1 := h1
  have e2 : (bits BinOp.and IntKind.i64 r.items 2 != 0) = q2 := h2
  have e4 : (bits BinOp.and IntKind.i64 r.items 4 != 0) = q4 := h4
  have e16 : (bits BinOp.and IntKind.i64 r.items 16 != 0) = q16 := h16
  obtain ⟨q8, h8⟩ : ∃ q, (bits BinOp.and IntKind.i64 r.items 8 == 0) = q := ⟨_, rfl⟩
  have HF := Lib.hid (show rsFit r = (decide (1 ≤ r.items) && (decide (r.items ≤ 31) && (q8 && decide (r.flags ≤ 31)))) by
    have h3 : decide (r.body.length ≤ 65536) = true := decide_eq_true (by have := hs.body; omega)
    have h5 : rsBit r.items 8 = !q8 := by rw [← h8]; rfl
    unfold rsFit
    rw [if_neg (by omega), if_pos hk, h3, h5, Bool.and_true]
    cases q8 <;> by_cases a : 1 ≤ r.items <;> by_cases b : r.items ≤ 31 <;> simp [a, b])
  have hbl : r.body.length ≤ 3000 := hs.body
  have hfl : r.flags ≤ 255 := hr.flags
  rw [HO.out]
  generalize hfit : rsFit r = fit at *
  unfold rsV at *
  rw [hk] at SM ⊢
  have H1 := Lib.hid (And.intro e1 (And.intro e2 (And.intro e4 e16)))
  clear hfit hk hA hs hr h1 h2 h4 h16 e1 e2 e4 e16
  go_enter Tryz.func18, Tryz.ntmps18
  go_upto_region 12 with (fail)
  go_cut [4] (fun s4 wx => s4 = .bool fit ∧ wx = ((w.alloc (.cells #[.int .i64 4, .int .u32 (r.n : Int), .string ⟨r.tag.toArray⟩, .int .i64 r.status, .string ⟨r.text.toArray⟩, .int .i64 r.items, .int .u8 (r.flags : Int), .int .u32 (r.uid : Int), .int .u32 (r.size : Int), .slice A r.body.length k] 27)).alloc (.cells #[.int .i64 4, .int .u32 (r.n : Int), .string ⟨#[]⟩, .int .i64 0, .string ⟨#[]⟩, .int .i64 r.items, .int .u8 0, .int .u32 0, .int .u32 0, .slice none 0 0] 27)))
  case first =>
    by_cases c1 : 1 ≤ r.items
    · by_cases c2 : r.items ≤ 31
      · cases q8 with
        | false =>
          have R := Lib.hid (show false = fit by rw [HF.out, decide_eq_true c1, decide_eq_true c2]; rfl)
          go_wp2_with fail
          go_meet
          exact ⟨congrArg Value.bool R.out, rfl⟩
        | true =>
          by_cases c4 : r.flags ≤ 31
          · have R := Lib.hid (show true = fit by rw [HF.out, decide_eq_true c1, decide_eq_true c2, decide_eq_true c4]; rfl)
            have d4 : decide ((r.flags : Int) ≤ 31) = true := by simp; omega
            have d5 : decide ((r.body.length : Int) ≤ 65536) = true := by simp; omega
            go_wp2_with fail
            go_meet
            exact ⟨congrArg Value.bool R.out, rfl⟩
          · have R := Lib.hid (show false = fit by rw [HF.out, decide_eq_true c1, decide_eq_true c2, decide_eq_false c4]; rfl)
            have d4 : decide ((r.flags : Int) ≤ 31) = false := by simp; omega
            go_wp2_with fail
            go_meet
            exact ⟨congrArg Value.bool R.out, rfl⟩
      · have R := Lib.hid (show false = fit by rw [HF.out, decide_eq_true c1, decide_eq_false c2]; rfl)
        have d2 : decide (r.items ≤ 31) = false := by simpa using c2
        go_wp2_with fail
        go_meet
        exact ⟨congrArg Value.bool R.out, rfl⟩
    · have R := Lib.hid (show false = fit by rw [HF.out, decide_eq_false c1]; rfl)
      have d1 : decide (1 ≤ r.items) = false := by simpa using c1
      go_wp2_with fail
      go_meet
      exact ⟨congrArg Value.bool R.out, rfl⟩
  case rest =>
    obtain ⟨rfl, rfl⟩ := hcut
    obtain ⟨e1, e2, e4, e16⟩ := H1.out
    clear HF HO h8
    cases fit
    · clear SM
      cases q1 <;> cases q2 <;> cases q4 <;> cases q16
      all_goals
        go_wp2_with fail
        go_ret
        exact ⟨by first | rfl | simp, below_2box _ _ _⟩
    · cases q1 <;> cases q2 <;> cases q4 <;> cases q16
      all_goals
        simp only [Bool.false_eq_true, if_false, if_true] at SM
        have SM := Lib.hid SM
        go_wp2_with fail
        refine (SM.out _ (below_2box _ _ _)).mono ?_
        rintro e w1 ⟨rfl, hb⟩
        have HB := Lib.hid (below_next (below_2box w _ _) hb)
        clear hb
        go_wp2_with fail
        go_ret
        exact ⟨by first | rfl | simp, HB.out⟩

theorem rvalid9_any (r : RI) (hr : RIok r) (hs : RIsm r) (A : Option Addr) (k : Nat) (w : World) (hA : ByAt w.heap.size w A k r.body) :
    Calls Tryz.prog 18 #[rsV r A k] w fun e w' => e = .returned (.bool (rsOk r)) ∧ Below w.heap.size w w' := by
  by_cases hk : 1 ≤ r.kind ∧ r.kind ≤ 10
  · have hc : r.kind = 1 ∨ r.kind = 2 ∨ r.kind = 3 ∨ r.kind = 4 ∨ r.kind = 5 ∨ r.kind = 6 ∨ r.kind = 7 ∨ r.kind = 8 ∨ r.kind = 9 ∨ r.kind = 10 := by omega
    rcases hc with h | h | h | h | h | h | h | h | h | h
    · exact rv1 r A k h w hA
    · exact rv2 r A k h w hA
    · exact rv3 r A k h w hA
    · exact rv4 r A k h hr hs w hA
    · exact rv5 r A k h w hA
    · exact rv6 r A k h hs w hA
    · exact rv7 r A k h hs w hA
    · exact rv8 r A k h hs w hA
    · exact rv9 r A k h hs w hA
    · exact rv10 r A k h hs w hA
  · exact rv0 r A k hk w
end Go.Proofs.YtpoejnajnaolpaaGreatDoor
