/- The lock table: Acquire's walk. -/
import Derived.Test.YtpfplniokjkcbaaLkC
namespace Go.Proofs.Ytpfplniokjkcbaa
open Go.RowKit Go.Maps

section
variable {R : LR} {g q : Nat} {S : Nat → Prop} {L : List Int} {w : World}
set_option maxRecDepth 100000 in
set_option maxHeartbeats 1000000 in
/-- No such owner or lock. -/
theorem acq_range (o k : Int) (hr : o < 0 ∨ k < 0 ∨ (L.length : Int) ≤ k) (h : LkX R g S L q w) :
    Calls Try.prog 15 #[.pointer (some ⟨g, 0, none⟩), .int .i64 o, .int .i64 k] w fun e w' => e = .returned (.int .i64 2) ∧ w = w' := by
  obtain ⟨c0, c1, c2, c3⟩ := h.cells
  clear h
  generalize L.length = n at *
  by_cases h1 : o < 0
  · clear hr
    go_enter Try.func15, Try.ntmps15
    go_wp2_with fail
    go_ret
    exact ⟨rfl, rfl⟩
  · by_cases h2 : k < 0
    · clear hr
      have h1 : 0 ≤ o := by omega
      go_enter Try.func15, Try.ntmps15
      go_wp2_with fail
      go_ret
      exact ⟨rfl, rfl⟩
    · have h3 : (n : Int) ≤ k := by omega
      have h1 : 0 ≤ o := by omega
      have h2 : 0 ≤ k := by omega
      clear hr
      go_enter Try.func15, Try.ntmps15
      go_wp2_with fail
      go_ret
      exact ⟨rfl, rfl⟩
set_option maxRecDepth 100000 in
set_option maxHeartbeats 1000000 in
/-- The owner holds the lock. -/
theorem acq_dup (o : Int) (k : Nat) (ho : 0 ≤ o) (hk : k < L.length) (he : ownL L k = o) (h : LkX R g S L q w) :
    Calls Try.prog 15 #[.pointer (some ⟨g, 0, none⟩), .int .i64 o, .int .i64 (k : Int)] w fun e w' => e = .returned (.int .i64 8) ∧ w = w' := by
  obtain ⟨c0, c1, c2, c3⟩ := h.cells
  have hl := h.len
  have C := lkholds_x o (k : Int) ⟨by omega, by omega⟩ h
  rw [decide_eq_true ⟨he, by omega⟩] at C
  have C := Lib.hid C
  have k0 : (0 : Int) ≤ (k : Int) := by omega
  have k1 : ¬ (L.length : Int) ≤ (k : Int) := by omega
  clear h hl he hk
  generalize L.length = n at *
  go_enter Try.func15, Try.ntmps15
  go_wp2_with fail
  refine C.out.mono ?_
  rintro e w1 ⟨rfl, rfl⟩
  clear C
  go_wp2_with fail
  go_ret
  exact ⟨rfl, rfl⟩
/-- What Acquire reads of the owner's row. -/
theorem LkX.last (h : LkX R g S L q w) (o : Int) : (heldL L o = [] ∧ R.val L o = .slice none 0 0) ∨ ∃ (b off n m c : Nat) (y : Nat), R.val L o = .slice (some ⟨b, off, none⟩) n c ∧ n = m + 1 ∧ n ≤ 65536 ∧ w.cell? ⟨b, off + m, none⟩ = some (.int .i64 (y : Int)) ∧ (∀ k : Int, overL L o k ↔ k < (y : Int)) ∧ (heldL L o).length = n := by
  by_cases e : heldL L o = []
  · exact .inl ⟨e, by unfold LR.val; rw [if_pos e]⟩
  · obtain ⟨A, c, hv, hS, hc⟩ := h.sl o
    have hn := heldL_len L o
    have hl := h.len
    have hpos := List.length_pos_iff.2 e
    have hlt : (heldL L o).length - 1 < (heldL L o).length := by omega
    obtain ⟨b, off, rfl, _, hx⟩ := hS.at_ hlt
    refine .inr ⟨b, off, _, (heldL L o).length - 1, c, (heldL L o)[(heldL L o).length - 1], hv, by omega, by omega, by simpa [encK] using hx 0 _ rfl, fun k => ?_, rfl⟩
    rw [overL_last]
    constructor
    · rintro ⟨h1, h2⟩
      rwa [List.getLast_eq_getElem] at h2
    · intro h2
      exact ⟨e, by rwa [List.getLast_eq_getElem]⟩
set_option maxRecDepth 100000 in
set_option maxHeartbeats 1000000 in
/-- The owner holds a lock with a greater number. -/
theorem acq_order (o : Int) (ho2 : I64 o) (k : Nat) (ho : 0 ≤ o) (hk : k < L.length) (he : ownL L k ≠ o) (hv : overL L o k) (h : LkX R g S L q w) :
    Calls Try.prog 15 #[.pointer (some ⟨g, 0, none⟩), .int .i64 o, .int .i64 (k : Int)] w fun e w' => e = .returned (.int .i64 10) ∧ w = w' := by
  obtain ⟨c0, c1, c2, c3⟩ := h.cells
  have hl := h.len
  have C := lkholds_x o (k : Int) ⟨by omega, by omega⟩ h
  rw [decide_eq_false fun e => he e.1] at C
  have C := Lib.hid C
  have hlk : (Instr.lookup 60 (.map (some R.hb)) (.int .i64 o) false).run Try.prog w = .ok (R.val L o) w := h.lookH ho2 0
  have k0 : (0 : Int) ≤ (k : Int) := by omega
  have k1 : ¬ (L.length : Int) ≤ (k : Int) := by omega
  rcases h.last o with ⟨h1, _⟩ | ⟨b, off, n, m, c, y, h1, h2, h5, h3, h4, -⟩
  · exfalso
    obtain ⟨i, hi, _⟩ := hv
    rw [h1] at hi
    cases hi
  · have hy : (k : Int) < (y : Int) := (h4 _).1 hv
    rw [h1] at hlk
    have n0 : (0 : Int) < (n : Int) := by omega
    have e1 : (n : Int) - 1 = (m : Int) := by omega
    have m0 : (0 : Int) ≤ (m : Int) := by omega
    have m1 : (m : Int) < (n : Int) := by omega
    clear h hl he hk hv h1 h2 h4
    generalize L.length = nn at *
    go_enter Try.func15, Try.ntmps15
    go_wp2_with fail
    refine C.out.mono ?_
    rintro e w1 ⟨rfl, rfl⟩
    clear C
    go_wp2_with fail
    go_ret
    exact ⟨rfl, rfl⟩
set_option maxRecDepth 100000 in
set_option maxHeartbeats 1000000 in
/-- Another owner holds the lock. -/
theorem acq_held (o : Int) (ho2 : I64 o) (k : Nat) (ho : 0 ≤ o) (hk : k < L.length) (he : ownL L k ≠ o) (hv : ¬ overL L o k) (hf : 0 ≤ ownL L k) (h : LkX R g S L q w) :
    Calls Try.prog 15 #[.pointer (some ⟨g, 0, none⟩), .int .i64 o, .int .i64 (k : Int)] w fun e w' => e = .returned (.int .i64 9) ∧ w = w' := by
  obtain ⟨c0, c1, c2, c3⟩ := h.cells
  have hl := h.len
  have C := lkholds_x o (k : Int) ⟨by omega, by omega⟩ h
  rw [decide_eq_false fun e => he e.1] at C
  have C := Lib.hid C
  have hlk : (Instr.lookup 60 (.map (some R.hb)) (.int .i64 o) false).run Try.prog w = .ok (R.val L o) w := h.lookH ho2 0
  have hlo : (Instr.lookup 59 (.map (some R.ob)) (.int .i64 (k : Int)) true).run Try.prog w = .ok (.tuple #[.int .i64 (max (ownL L k) 0), .bool (decide (0 ≤ ownL L k))]) w := h.lookO ⟨by omega, by omega⟩ 0
  rw [decide_eq_true hf] at hlo
  have k0 : (0 : Int) ≤ (k : Int) := by omega
  have k1 : ¬ (L.length : Int) ≤ (k : Int) := by omega
  generalize max (ownL L k) 0 = xo at *
  rcases h.last o with ⟨-, h1⟩ | ⟨b, off, n, m, c, y, h1, h2, h5, h3, h4, -⟩
  · rw [h1] at hlk
    clear h hl he hk hv h1 hf
    generalize L.length = nn at *
    go_enter Try.func15, Try.ntmps15
    go_wp2_with fail
    refine C.out.mono ?_
    rintro e w1 ⟨rfl, rfl⟩
    clear C
    go_wp2_with fail
    go_ret
    exact ⟨rfl, rfl⟩
  · have hy : ¬ (k : Int) < (y : Int) := fun e => hv ((h4 _).2 e)
    rw [h1] at hlk
    have n0 : (0 : Int) < (n : Int) := by omega
    have e1 : (n : Int) - 1 = (m : Int) := by omega
    have m0 : (0 : Int) ≤ (m : Int) := by omega
    have m1 : (m : Int) < (n : Int) := by omega
    clear h hl he hk hv h1 h2 h4 hf
    generalize L.length = nn at *
    go_enter Try.func15, Try.ntmps15
    go_wp2_with fail
    refine C.out.mono ?_
    rintro e w1 ⟨rfl, rfl⟩
    clear C
    go_wp2_with fail
    go_ret
    exact ⟨rfl, rfl⟩
end
end Go.Proofs.Ytpfplniokjkcbaa
