/- Layer 15 in plain words: events, pushed, squeezed, flushed; where they lie. No walk. -/
import Derived.Test.YtfmloifgngembaaNumB
import Derived.Test.YtfmloifgngembaaAl
import Derived.Test.YtfmloifgngembaaRegB
namespace Go.Proofs.Ytfmloifgngembaa
open Go.RowKit

/-- An event: kind, identifier, flags. -/
structure EvI where
  k : Int
  u : Nat
  f : Nat
deriving DecidableEq
instance : Inhabited EvI := ⟨⟨0, 0, 0⟩⟩
def encEv (e : EvI) : List Value := [.int .i64 e.k, .int .u32 (e.u : Int), .int .u8 (e.f : Int)]
def evV (e : EvI) : Value := .agg #[.int .i64 e.k, .int .u32 (e.u : Int), .int .u8 (e.f : Int)]
theorem encEv_len (e : EvI) : (encEv e).length = 3 := rfl
theorem one_flatEv (l : List EvI) : ∀ u ∈ flatL encEv l, u.oneCell' = true := by
  intro u hu
  obtain ⟨r, _, hr⟩ := List.mem_flatMap.1 hu
  simp [encEv] at hr
  rcases hr with rfl | rfl | rfl <;> rfl
theorem infoEv : (Try.prog.info? 39).map (fun i => (i.zero, i.size, i.bytes)) = some (some (.agg #[.int .i64 0, .int .u32 0, .int .u8 0]), 3, 16) := by kernel_rfl
theorem SlAt.ev {w : World} {A : Option Addr} {l : List EvI} (h : SlAt encEv 3 w A l) {j : Nat} (hj : j < l.length) :
    ∃ b off, A = some ⟨b, off, none⟩ ∧ b < w.heap.size ∧ w.cell? ⟨b, off + j * 3, none⟩ = some (.int .i64 l[j].k) ∧ w.cell? ⟨b, off + j * 3 + 1, none⟩ = some (.int .u32 (l[j].u : Int)) ∧ w.cell? ⟨b, off + j * 3 + 2, none⟩ = some (.int .u8 (l[j].f : Int)) := by
  obtain ⟨b, off, hA, hb, hc⟩ := h.at_ hj
  exact ⟨b, off, hA, hb, by simpa using hc 0 _ rfl, hc 1 _ rfl, hc 2 _ rfl⟩
/-- One event in a block of its own. -/
theorem slAt_ev {W : World} {b : Nat} (x : EvI) (h : W.heap[b]? = some (.cells #[.int .i64 x.k, .int .u32 (x.u : Int), .int .u8 (x.f : Int)] 39)) : SlAt encEv 3 W (some ⟨b, 0, none⟩) [x] := by
  refine .inr ⟨b, 0, rfl, (Array.getElem?_eq_some_iff.1 h).1, fun j y hj i v hi => ?_⟩
  match j, hj with
  | 0, hj =>
    simp at hj
    subst hj
    match i, hi with
    | 0, hi => simp [encEv] at hi; subst hi; exact cell_of_row _ _ 0 _ _ _ h
    | 1, hi => simp [encEv] at hi; subst hi; exact cell_of_row _ _ 1 _ _ _ h
    | 2, hi => simp [encEv] at hi; subst hi; exact cell_of_row _ _ 2 _ _ _ h
    | n + 3, hi => simp [encEv] at hi
def evOk (e : EvI) : Prop := (-9223372036854775808 ≤ e.k ∧ e.k ≤ 9223372036854775807) ∧ e.u ≤ 4294967295 ∧ e.f ≤ 255

def knownE (e : EvI) : Bool := decide (1 ≤ e.k ∧ e.k ≤ 3)
/-- What a queue has behind Push. -/
def pushE (q l : List EvI) : List EvI := q ++ l.filter knownE
/-- A later change of the same message. -/
def laterE (x : EvI) (l : List EvI) : Bool := l.any fun y => decide (x.k = 3 ∧ y.k = 3 ∧ y.u = x.u)
def sqE : List EvI → List EvI
  | [] => []
  | x :: l => if laterE x l = true then sqE l else x :: sqE l
def toldE (gone : Bool) (q : List EvI) : List EvI := q.filter fun e => gone || decide (e.k ≠ 2)
def restE (gone : Bool) (q : List EvI) : List EvI := q.filter fun e => !(gone || decide (e.k ≠ 2))
def hasE (q : List EvI) (u : Nat) : Bool := q.any fun e => decide (e.k = 2 ∧ e.u = u)

theorem sqE_len : ∀ l : List EvI, (sqE l).length ≤ l.length
  | [] => Nat.le_refl _
  | x :: l => by
    have := sqE_len l
    unfold sqE
    split
    · simp; omega
    · simp; omega
theorem pushE_len (q l : List EvI) : (pushE q l).length ≤ q.length + l.length := by
  unfold pushE
  rw [List.length_append]
  have := List.length_filter_le knownE l
  omega
theorem toldE_len (g : Bool) (q : List EvI) : (toldE g q).length ≤ q.length := List.length_filter_le _ _
theorem restE_len (g : Bool) (q : List EvI) : (restE g q).length ≤ q.length := List.length_filter_le _ _
theorem sqE_sub : ∀ {l : List EvI} {x : EvI}, x ∈ sqE l → x ∈ l
  | y :: l, x, h => by
    unfold sqE at h
    split at h
    · exact List.mem_cons_of_mem _ (sqE_sub h)
    · rcases List.mem_cons.1 h with e | e
      · rw [e]; exact List.mem_cons_self ..
      · exact List.mem_cons_of_mem _ (sqE_sub e)
/-- What is squeezed has no change that another follows. -/
theorem sqE_later : ∀ {l : List EvI}, (sqE l).Pairwise fun x y => ¬ (x.k = 3 ∧ y.k = 3 ∧ y.u = x.u)
  | [] => .nil
  | x :: l => by
    unfold sqE
    split
    · exact sqE_later
    · next h =>
      refine List.pairwise_cons.2 ⟨fun y hy hxy => h ?_, sqE_later⟩
      unfold laterE
      rw [List.any_eq_true]
      exact ⟨y, sqE_sub hy, decide_eq_true hxy⟩
theorem sqE_id : ∀ {l : List EvI}, (l.Pairwise fun x y => ¬ (x.k = 3 ∧ y.k = 3 ∧ y.u = x.u)) → sqE l = l
  | [], _ => rfl
  | x :: l, h => by
    have h' := List.pairwise_cons.1 h
    unfold sqE
    rw [if_neg, sqE_id h'.2]
    unfold laterE
    rw [List.any_eq_true]
    rintro ⟨y, hy, e⟩
    exact h'.1 y hy (of_decide_eq_true e)
/-- Squeezing twice changes nothing more. -/
theorem sqE_twice (l : List EvI) : sqE (sqE l) = sqE l := sqE_id sqE_later
/-- Events that are no changes stay. -/
theorem sqE_filter (p : EvI → Bool) (hp : ∀ e, p e = true → e.k ≠ 3) : ∀ l : List EvI, (sqE l).filter p = l.filter p
  | [] => rfl
  | x :: l => by
    unfold sqE
    split
    · next h =>
      have hx : p x = false := by
        cases hpx : p x with
        | false => rfl
        | true =>
          unfold laterE at h
          rw [List.any_eq_true] at h
          obtain ⟨y, _, e⟩ := h
          exact absurd (of_decide_eq_true e).1 (hp x hpx)
      rw [List.filter_cons_of_neg (by simp [hx]), sqE_filter p hp l]
    · rw [List.filter_cons, List.filter_cons, sqE_filter p hp l]
end Go.Proofs.Ytfmloifgngembaa
