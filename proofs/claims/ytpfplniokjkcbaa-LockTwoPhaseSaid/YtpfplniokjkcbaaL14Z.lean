/- The laws of layer 14: the chapter's example. -/
import Derived.Test.YtpfplniokjkcbaaLkStub
namespace Go.Proofs.Ytpfplniokjkcbaa
open Go.RowKit

/-- A table all of whose blocks are new since block B; nothing below B has changed. -/
def LkE (B g : Nat) (L : List Int) (q : Nat) (w0 w : World) : Prop := (∃ S, LkT g S L q w ∧ ∀ k, S k → B ≤ k) ∧ Below B w0 w ∧ B ≤ w.heap.size
section
variable {B g q : Nat} {L : List Int} {w0 w w' : World}
theorem LkE.below (h : LkE B g L q w0 w) (hb : Below w.heap.size w w') : LkE B g L q w0 w' := by
  obtain ⟨⟨S, h1, h2⟩, h3, h4⟩ := h
  exact ⟨⟨S, h1.kept (KeptO.of_below (S := fun _ => False) hb) fun _ _ => id, h2⟩, h3.trans (hb.mono h4), Nat.le_trans h4 hb.size⟩
theorem LkE.acq (o k : Int) (ho : -9223372036854775808 ≤ o ∧ o ≤ 9223372036854775807) (hk : -9223372036854775808 ≤ k ∧ k ≤ 9223372036854775807) (hq : q ≤ 1000000) (h : LkE B g L q w0 w) :
    Calls Try.prog 15 #[.pointer (some ⟨g, 0, none⟩), .int .i64 o, .int .i64 k] w fun e w' => e = .returned (.int .i64 (acqL L o k).2) ∧ LkE B g (acqL L o k).1 (if (acqL L o k).2 = 0 then q + 1 else q) w0 w' := by
  obtain ⟨⟨S, h1, h2⟩, h3, h4⟩ := h
  refine (lkacq_any o k ho hk hq h1).mono ?_
  rintro e w' ⟨S', rfl, t, m, kk⟩
  exact ⟨rfl, ⟨S', t, fun j hj => (m.2 j hj).elim (h2 j) fun e => Nat.le_trans h4 e⟩, h3.trans (kk.below h2 h4), Nat.le_trans h4 kk.size⟩
theorem LkE.rel (o : Int) (ho : -9223372036854775808 ≤ o ∧ o ≤ 9223372036854775807) (h : LkE B g L q w0 w) :
    Calls Try.prog 13 #[.pointer (some ⟨g, 0, none⟩), .int .i64 o] w fun e w' => e = .returned (.int .i64 ((heldL L o).length : Nat)) ∧ LkE B g (relL L o) q w0 w' := by
  obtain ⟨⟨S, h1, h2⟩, h3, h4⟩ := h
  refine (lkrel_any o ho h1).mono ?_
  rintro e w' ⟨S', rfl, t, m, kk⟩
  exact ⟨rfl, ⟨S', t, fun j hj => (m.2 j hj).elim (h2 j) fun e => Nat.le_trans h4 e⟩, h3.trans (kk.below h2 h4), Nat.le_trans h4 kk.size⟩
end
set_option maxRecDepth 100000 in
set_option maxHeartbeats 2000000 in
theorem alive14_any (w : World) : Calls Try.prog 9 #[] w fun e w' => e = .returned (.bool true) ∧ Below w.heap.size w w' := by
  have N1 := Lib.hid (lknew_any 5 (by omega) w)
  have E1 : acqL (List.replicate 5 (-1)) 1 3 = ([-1, -1, -1, 1, -1], 0) := by decide
  have E2 : acqL [-1, -1, -1, 1, -1] 1 2 = ([-1, -1, -1, 1, -1], 10) := by decide
  have E3 : acqL [-1, -1, -1, 1, -1] 2 3 = ([-1, -1, -1, 1, -1], 9) := by decide
  have E4 : heldL [-1, -1, -1, 1, -1] 1 = [3] := by decide
  have E5 : relL [-1, -1, -1, 1, -1] 1 = [-1, -1, -1, -1, -1] := by decide
  have E6 : freeL [-1, -1, -1, -1, -1] = true := by decide
  have H1 := Lib.hid E1
  have H2 := Lib.hid E2
  have H3 := Lib.hid E3
  have H4 := Lib.hid E4
  have H5 := Lib.hid E5
  have H6 := Lib.hid E6
  clear E1 E2 E3 E4 E5 E6
  go_enter Try.func9, Try.ntmps9
  go_wp2_with fail
  refine N1.out.mono ?_
  rintro e w1 ⟨g, S, rfl, t1, s1, hb1⟩
  have T1 := Lib.hid (show LkE w.heap.size g (List.replicate 5 (-1)) 0 w w1 from ⟨⟨S, t1, s1⟩, hb1, hb1.size⟩)
  clear t1 s1 hb1 N1
  have A1 := T1.out.acq 1 3 (by decide) (by decide) (by decide)
  rw [H1.out] at A1
  have A1h := Lib.hid A1
  clear A1
  go_wp2_with fail
  refine A1h.out.mono ?_
  rintro e w2 ⟨rfl, t2⟩
  have A2 := LkE.acq 1 2 (by decide) (by decide) (by decide) t2
  rw [H2.out] at A2
  have A2h := Lib.hid A2
  clear A2 t2 A1h T1
  go_wp2_with fail
  refine A2h.out.mono ?_
  rintro e w3 ⟨rfl, t3⟩
  have A3 := LkE.acq 2 3 (by decide) (by decide) (by decide) t3
  rw [H3.out] at A3
  have A3h := Lib.hid A3
  clear A3 t3 A2h
  go_wp2_with fail
  refine A3h.out.mono ?_
  rintro e w4 ⟨rfl, t4⟩
  have A4 := LkE.rel 1 (by decide) t4
  rw [H4.out, H5.out] at A4
  have A4h := Lib.hid A4
  clear A4 t4 A3h
  go_wp2_with fail
  refine A4h.out.mono ?_
  rintro e w5 ⟨rfl, t5⟩
  have T5 := Lib.hid t5
  obtain ⟨⟨S5, t5, s5⟩, b5, z5⟩ := t5
  have A5 := lkfree_any t5
  rw [H6.out] at A5
  have A5h := Lib.hid A5
  clear A5 t5 s5 b5 z5 A4h
  go_wp2_with fail
  refine A5h.out.mono ?_
  rintro e w6 ⟨rfl, hb6⟩
  have T6 := T5.out.below hb6
  obtain ⟨⟨S6, t6, s6⟩, b6, z6⟩ := T6
  have A6 := Lib.hid (lkcnt_any (by decide) t6)
  have B6 := Lib.hid b6
  have Z6 := Lib.hid z6
  clear hb6 t6 s6 b6 z6 A5h T5
  go_wp2_with fail
  refine A6.out.mono ?_
  rintro e w7 ⟨rfl, hb7⟩
  have HB := Lib.hid (B6.out.trans (hb7.mono Z6.out))
  clear hb7 A6
  go_wp2_with fail
  go_ret
  exact ⟨rfl, HB.out⟩
end Go.Proofs.Ytpfplniokjkcbaa
