/- Streams of one long line. Plain facts, no walk. -/
import Derived.Test.YtldlghfjinpnkaaDoorAlive5
namespace Go.Proofs.YtldlghfjinpnkaaDoor

theorem mark_rep {pre post : List UInt8} {x : UInt8} {n j : Nat} (hx : x ≠ 13) (h1 : pre.length ≤ j) (h2 : j < pre.length + n) : ¬ Mark (pre ++ (List.replicate n x ++ post)) j := by
  intro h
  have := h.1
  rw [List.getElem?_append_right h1, List.getElem?_append_left (by simp; omega), List.getElem?_replicate_of_lt (by omega)] at this
  exact hx (Option.some.inj this)
theorem end_rep {pre post : List UInt8} {x : UInt8} {n : Nat} (hx : x ≠ 13) : endOf (pre ++ (List.replicate n x ++ 13 :: 10 :: post)) pre.length = some (pre.length + n) := by
  refine endOf_some.2 ⟨by omega, ⟨?_, ?_⟩, fun j h1 h2 => mark_rep hx h1 h2⟩
  · rw [List.getElem?_append_right (by omega), List.getElem?_append_right (by simp), List.length_replicate, show pre.length + n - pre.length - n = 0 by omega]
    rfl
  · rw [List.getElem?_append_right (by omega), List.getElem?_append_right (by simp; omega), List.length_replicate, show pre.length + n + 1 - pre.length - n = 1 by omega]
    rfl
theorem take_rep {pre post : List UInt8} {x : UInt8} {n : Nat} : (pre ++ (List.replicate n x ++ post)).take (pre.length + n) = pre ++ List.replicate n x := by
  rw [← List.append_assoc, List.take_left' (by simp)]
theorem drop_rep {pre post : List UInt8} {x : UInt8} {n : Nat} : (pre ++ (List.replicate n x ++ 13 :: 10 :: post)).drop (pre.length + n + 2) = post := by
  rw [← List.append_assoc, show pre.length + n + 2 = (pre ++ List.replicate n x).length + 2 by simp, List.drop_append, List.drop_eq_nil_of_le (by omega), List.nil_append, Nat.add_sub_cancel_left]
  rfl
theorem line_rep {pre post : List UInt8} {x : UInt8} {n : Nat} : ((pre ++ (List.replicate n x ++ post)).take (pre.length + n)).drop pre.length = List.replicate n x := by
  rw [take_rep, List.drop_left]
theorem ann_rep {x : UInt8} {n : Nat} (hx : x ≠ 125) : annOf (List.replicate n x) = none := by
  refine annOf_no fun h => ?_
  cases n with
  | zero => simp at h
  | succ n =>
    rw [List.length_replicate, List.getElem?_replicate_of_lt (by omega)] at h
    exact hx (Option.some.inj h)
/-- A line of one byte, behind what came before. -/
theorem step_short {pre post : List UInt8} {x : UInt8} {n : Nat} (h13 : x ≠ 13) (h125 : x ≠ 125) (hn : n ≤ 8192) : stepF (pre ++ (List.replicate n x ++ 13 :: 10 :: post)) pre.length = some (⟨1, pre ++ List.replicate n x⟩, post, 0) := by
  have := stepF_command (end_rep (pre := pre) (post := post) (n := n) h13) (by omega) (by rw [line_rep]; exact ann_rep h125)
  rw [take_rep, drop_rep] at this
  exact this
theorem step_long {pre post : List UInt8} {x : UInt8} {n : Nat} (h13 : x ≠ 13) (hn : 8192 < n) : stepF (pre ++ (List.replicate n x ++ 13 :: 10 :: post)) pre.length = some (⟨3, List.replicate 8192 x⟩, post, 0) := by
  have := stepF_long (end_rep (pre := pre) (post := post) (n := n) h13) (by omega)
  rw [List.drop_left, List.take_append_of_le_length (by simp; omega), List.take_replicate, Nat.min_eq_left (by omega), drop_rep] at this
  exact this
/-- What the literal's head does. -/
def litP : List UInt8 := [123, 49, 125, 13, 10, 120]
theorem step_lit (rest : List UInt8) : stepF (litP ++ rest) 0 = some (⟨2, []⟩, litP ++ rest, 6) := by
  have h0 : stepF litP 0 = some (⟨2, []⟩, litP, 6) := stepF_ready (e := 3) (n := 1) (by decide +kernel) (by omega) (annOf_yes ⟨by omega, [], by rw [dec_1]; rfl⟩) (by omega)
  exact stepF_append rest h0
/-- Whatever is reached in the end is what is known. -/
theorem short_known {R0 R : List UInt8} {k : Nat} {fs : List Fr} (hr : Runs R0 0 fs R k) (hd : Done R k) (hs : R.length ≤ k + 8192) : Short R0 := fun fs' R' k' hr' hd' => by
  obtain ⟨_, rfl, rfl⟩ := hr'.det hd' hr hd
  exact hs
end Go.Proofs.YtldlghfjinpnkaaDoor
