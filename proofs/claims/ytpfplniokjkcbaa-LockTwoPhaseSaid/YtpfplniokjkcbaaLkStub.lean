/- The lock table's contracts as the laws of layer 14 take them (XLkT .. XLkF); Acquire in all its cases. -/
import Derived.Test.YtpfplniokjkcbaaLkV
import Derived.Test.YtpfplniokjkcbaaLkI
import Derived.Test.YtpfplniokjkcbaaLkE2
import Derived.Test.YtpfplniokjkcbaaLkF
namespace Go.Proofs.Ytpfplniokjkcbaa
open Go.RowKit

section
variable {g q : Nat} {S : Nat → Prop} {L : List Int} {w : World}
theorem lkacq_any (o k : Int) (ho : -9223372036854775808 ≤ o ∧ o ≤ 9223372036854775807) (_hk : -9223372036854775808 ≤ k ∧ k ≤ 9223372036854775807) (hq : q ≤ 1000000) (h : LkT g S L q w) :
    Calls Try.prog 15 #[.pointer (some ⟨g, 0, none⟩), .int .i64 o, .int .i64 k] w fun e w' => ∃ S', e = .returned (.int .i64 (acqL L o k).2) ∧ LkT g S' (acqL L o k).1 (if (acqL L o k).2 = 0 then q + 1 else q) w' ∧ More S S' w ∧ KeptO S w w' := by
  have same : ∀ cd : Int, cd ≠ 0 → acqL L o k = (L, cd) → ∀ (e : Ending) (w' : World), (e = .returned (.int .i64 cd) ∧ w = w') → ∃ S', e = .returned (.int .i64 (acqL L o k).2) ∧ LkT g S' (acqL L o k).1 (if (acqL L o k).2 = 0 then q + 1 else q) w' ∧ More S S' w ∧ KeptO S w w' := by
    rintro cd h0 hE e w' ⟨rfl, rfl⟩
    rw [hE]
    refine ⟨S, rfl, ?_, More.refl _ _, KeptO.refl _ _⟩
    show LkT g S L (if cd = 0 then q + 1 else q) w
    rw [if_neg h0]
    exact h
  obtain ⟨R, hx⟩ := id h
  by_cases e1 : o < 0 ∨ k < 0 ∨ (L.length : Int) ≤ k
  · exact (acq_range o k e1 hx).mono (same 2 (by decide) (by unfold acqL; rw [if_pos e1]))
  · obtain ⟨n, rfl⟩ : ∃ n : Nat, k = n := ⟨k.toNat, by omega⟩
    have h0 : 0 ≤ o := by omega
    have hn : n < L.length := by omega
    by_cases e2 : ownL L n = o
    · exact (acq_dup o n h0 hn e2 hx).mono (same 8 (by decide) (by unfold acqL; rw [if_neg e1, if_pos e2]))
    · by_cases e3 : overL L o n
      · exact (acq_order o ho n h0 hn e2 e3 hx).mono (same 10 (by decide) (by unfold acqL; rw [if_neg e1, if_neg e2, if_pos e3]))
      · by_cases e4 : 0 ≤ ownL L n
        · exact (acq_held o ho n h0 hn e2 e3 e4 hx).mono (same 9 (by decide) (by unfold acqL; rw [if_neg e1, if_neg e2, if_neg e3, if_pos e4]))
        · have hE : acqL L o n = (L.set n o, 0) := by
            unfold acqL
            rw [if_neg e1, if_neg e2, if_neg e3, if_neg e4, Int.toNat_natCast]
          rw [hE]
          refine (acq_go o ho n h0 hn (by omega) e3 hq hx).mono ?_
          rintro e w' ⟨rfl, S', h1, h2, h3⟩
          exact ⟨S', rfl, h1, h2, h3⟩
theorem lkacq_nil (o k : Int) (w : World) : Calls Try.prog 15 #[.pointer none, .int .i64 o, .int .i64 k] w fun e w' => e = .returned (.int .i64 1) ∧ Below w.heap.size w w' := by
  go_enter Try.func15, Try.ntmps15
  go_wp2_with fail
  go_ret
  exact ⟨rfl, Below.refl _ _⟩
end
end Go.Proofs.Ytpfplniokjkcbaa
