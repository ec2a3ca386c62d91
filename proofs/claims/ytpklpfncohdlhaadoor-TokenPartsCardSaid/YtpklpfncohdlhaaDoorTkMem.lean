/- Lists of tokens in memory. Plain facts, no walk. -/
import Derived.Test.YtpklpfncohdlhaaDoorTkRuns
import Derived.Test.YtpklpfncohdlhaaDoorAppend
import Derived.Test.YtpklpfncohdlhaaDoorKeeps
namespace Go.Proofs.YtpklpfncohdlhaaDoor
open Go.RowKit

/-- A token's three cells. -/
def encT (t : Tok) : List Value := [.int .i64 (t.kind : Int), .string ⟨t.text.toArray⟩, .int .i64 (t.at_ : Int)]
theorem encT_len (t : Tok) : (encT t).length = 3 := rfl
theorem one_flatT (l : List Tok) : ∀ u ∈ flatL encT l, u.oneCell' = true := by
  induction l with
  | nil => intro u hu; simp [flatL] at hu
  | cons t l ih =>
    intro u hu
    have e : flatL encT (t :: l) = encT t ++ flatL encT l := rfl
    rw [e] at hu
    rcases List.mem_append.1 hu with h | h
    · simp [encT] at h
      rcases h with rfl | rfl | rfl <;> rfl
    · exact ih u h
theorem infoT : (Tryd.prog.info? 38).map (fun i => (i.zero, i.size, i.bytes)) = some (some (.agg #[.int .i64 0, .string ⟨#[]⟩, .int .i64 0]), 3, 32) := by kernel_rfl
theorem infoRT : (Tryd.prog.info? 39).map (fun i => (i.zero, i.size, i.bytes)) = some (some (.agg #[.int .i64 0, .string ⟨#[]⟩, .int .i64 0]), 3, 32) := by kernel_rfl
/-- The one token that is appended lies in a block of its own. -/
theorem slAt_oneT (w : World) (k a : Nat) (x : List UInt8) (T : TypeId) : SlAt encT 3 (w.alloc (.cells #[.int .i64 (k : Int), .string ⟨x.toArray⟩, .int .i64 (a : Int)] T)) (some ⟨w.heap.size, 0, none⟩) [⟨k, x, a⟩] := by
  refine .inr ⟨w.heap.size, 0, rfl, by simp, fun j y hj i u hi => ?_⟩
  have hj0 : j = 0 := by
    have := (List.getElem?_eq_some_iff.1 hj).1
    simpa using this
  subst hj0
  obtain rfl : (⟨k, x, a⟩ : Tok) = y := by simpa using hj
  rw [Joins.cell_alloc_mark_at w _ _ _ _ _ rfl]
  match i, hi with
  | 0, hi => simpa [encT] using hi
  | 1, hi => simpa [encT] using hi
  | 2, hi => simpa [encT] using hi
/-- The token at a place. -/
theorem tk_at {w : World} {A : Option Addr} {ts : List Tok} (h : SlAt encT 3 w A ts) {j : Nat} (hj : j < ts.length) :
    ∃ b off, A = some ⟨b, off, none⟩ ∧ b < w.heap.size ∧ w.cell? ⟨b, off + j * 3, none⟩ = some (.int .i64 (ts[j].kind : Int)) ∧ w.cell? ⟨b, off + j * 3 + 1, none⟩ = some (.string ⟨ts[j].text.toArray⟩) ∧ w.cell? ⟨b, off + j * 3 + 2, none⟩ = some (.int .i64 (ts[j].at_ : Int)) := by
  obtain ⟨b, off, hA, hb, hc⟩ := h.at_ hj
  exact ⟨b, off, hA, hb, hc 0 _ rfl, hc 1 _ rfl, hc 2 _ rfl⟩
theorem flatL_snocT (l : List Tok) (t : Tok) : flatL encT (l ++ [t]) = flatL encT l ++ flatL encT [t] := flatL_append l [t]
/-- Appending one. -/
theorem tk_snoc {base : Nat} {T : TypeId} {w : World} {v : Value} {ts : List Tok} {t : Tok} (h : w.ownsRow base T 3 v (ts.length + [t].length) (flatL encT ts ++ flatL encT [t])) : w.ownsRow base T 3 v (ts ++ [t]).length (flatL encT (ts ++ [t])) := by
  rw [List.length_append, flatL_snocT]
  exact h
theorem tk_sl {base n c : Nat} {T : TypeId} {w : World} {A : Option Addr} {ts : List Tok} (h : w.ownsRow base T 3 (.slice A n c) ts.length (flatL encT ts)) : SlAt encT 3 w A ts := SlAt.of_own encT_len h
end Go.Proofs.YtpklpfncohdlhaaDoor
