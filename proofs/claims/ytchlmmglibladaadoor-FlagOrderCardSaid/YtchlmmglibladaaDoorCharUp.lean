/- Capital letters: the project's and the reference's. -/
import Derived.Test.YtchlmmglibladaaDoorBase
import Derived.Test.YtchlmmglibladaaDoorCharMath
import Derived.Lib.ConvBytes
import Derived.Lib.SmallJoins
namespace Go.Proofs.YtchlmmglibladaaDoor
open Go.RowKit

set_option maxRecDepth 100000 in
set_option maxHeartbeats 400000 in
theorem up1_any (n : Nat) (w : World) (h1 : n ≤ 255) :
    Calls Tryd.prog 33 #[.int .u8 n] w fun e w' => e = .returned (.int .u8 (upN n : Nat)) ∧ w = w' := by
  by_cases ha : 97 ≤ n
  · by_cases hb : n ≤ 122
    · have R := Lib.hid (show (upN n : Nat) = n - 32 by unfold upN; rw [if_pos ⟨ha, hb⟩])
      go_enter Tryd.func33, Tryd.ntmps33
      go_wp2
      go_ret
      exact ⟨by rw [R.out]; exact ret_int (by omega), rfl⟩
    · have R := Lib.hid (show (upN n : Nat) = n by unfold upN; rw [if_neg (by omega)])
      go_enter Tryd.func33, Tryd.ntmps33
      go_wp2
      go_ret
      exact ⟨by rw [R.out]; rfl, rfl⟩
  · have R := Lib.hid (show (upN n : Nat) = n by unfold upN; rw [if_neg (by omega)])
    go_enter Tryd.func33, Tryd.ntmps33
    go_wp2
    go_ret
    exact ⟨by rw [R.out]; rfl, rfl⟩

/-- Behind k rounds: the first k bytes are capital, the others as they were. -/
def byteAt (s : ByteArray) (k j : Nat) : UInt8 := if j < k then upB (s.data.toList.getD j 0) else s.data.toList.getD j 0
structure Cells (s : ByteArray) (k b : Nat) (w : World) : Prop where
  out : ∀ j, j < s.size → w.cell? ⟨b, j, none⟩ = some (.int .u8 ((byteAt s k j).toNat : Nat)) ∧ w.frozen? ⟨b, j, none⟩ = false
theorem cells_start (s : ByteArray) (w : World) : Cells s 0 w.heap.size (Lib.bytesWorld w 5 s) := ⟨fun j hj => by
  refine ⟨?_, ?_⟩
  · rw [Lib.bytesWorld_cell w _ s j hj]; rfl
  · simp only [World.frozen?, Lib.bytesWorld_at_new]
    have : j < (Lib.bytesCells w 5 s).size := by simp [Lib.bytesCells]; omega
    simp; omega⟩
theorem upL_get (l : List UInt8) (j : Nat) (h : j < (upL l).length) : (upL l)[j] = upB (l.getD j 0) := by
  have h' : j < l.length := by simpa [upL] using h
  simp [upL, h']
theorem cells_next {s : ByteArray} {k b : Nat} {w : World} (h : Cells s k b w) (hk : k < s.size) : Cells s (k + 1) b (w.setCell ⟨b, k, none⟩ (.int .u8 (upN (byteAt s k k).toNat : Nat))) := ⟨fun j hj => by
  obtain ⟨hc, hf⟩ := h.out j hj
  refine ⟨?_, ?_⟩
  · by_cases e : j = k
    · subst e
      rw [World.cell?_setCell_same _ _ _ hc]
      have h1 : byteAt s (j + 1) j = upB (byteAt s j j) := by unfold byteAt; rw [if_pos (by omega), if_neg (by omega)]
      rw [h1, upB_toNat]
    · rw [World.cell?_setCell_other _ _ _ _ (by simp <;> omega), hc]
      have h1 : byteAt s (k + 1) j = byteAt s k j := by
        unfold byteAt
        by_cases hj2 : j < k
        · rw [if_pos (by omega), if_pos hj2]
        · rw [if_neg (by omega), if_neg hj2]
      rw [h1]
  · rw [World.frozen?_setCell]; exact hf⟩
theorem cells_back {s : ByteArray} {b : Nat} {w : World} (h : Cells s s.size b w) (cap : Nat) :
    (convert 59 9 (.slice (some ⟨b, 0, none⟩) s.size cap)).run Tryd.prog w = .ok (.string ⟨(upL s.data.toList).toArray⟩) w := by
  have hl : (upL s.data.toList).length = s.size := by rw [upL_length]; simp
  have e := run_convert_bytes_back (P := Tryd.prog) w 59 9 5 ⟨b, 0, none⟩ cap (upL s.data.toList) Tryd.underlying59 Tryd.underlying5 Tryd.underlying9 (fun j hj => by
    rw [hl] at hj
    rw [Lib.add_plain, Nat.zero_add, (h.out j hj).1]
    rw [upL_get]
    unfold byteAt
    rw [if_pos hj])
  rw [hl] at e
  exact e

set_option maxRecDepth 100000 in
set_option maxHeartbeats 400000 in
theorem change_any (s : ByteArray) (hs : s.size ≤ 1000000000) (w : World) :
    Calls Tryd.prog 32 #[.string s, .func (Fn.func 33) #[] #[]] w fun e w' => e = .returned (.string ⟨(upL s.data.toList).toArray⟩) ∧ Below w.heap.size w w' := by
  have hcv := fun (w : World) => Lib.run_convert_string_bytes (P := Tryd.prog) w 9 59 5 s Tryd.underlying9 Tryd.underlying59 Tryd.underlying5
  go_enter Tryd.func32, Tryd.ntmps32
  go_wp2_with fail
  clear hcv
  go_loopw [12] (fun i wr => ∃ k : Nat, k ≤ s.size ∧ i = .int .i64 k ∧ Cells s k w.heap.size wr ∧ Below w.heap.size w wr) (fun i _ => s.size - (intOf i).toNat)
  case atStart => exact ⟨0, Nat.zero_le _, rfl, cells_start s w, Joins.below_bytesWorld _ _ _ _ (Nat.le_refl _)⟩
  case round =>
    obtain ⟨k, hk, rfl, HC, hb⟩ := hrel
    by_cases hlt : k < s.size
    · have hc := (HC.out k hlt).1
      have hf := (HC.out k hlt).2
      have HN := cells_next HC hlt
      have U := Lib.hid (up1_any (byteAt s k k).toNat wr (by have := (byteAt s k k).toNat_lt; omega))
      generalize (byteAt s k k).toNat = c at *
      have HNs := hb.setCell (p := ⟨w.heap.size, k, none⟩) (Nat.le_refl _) (.int .u8 (upN c : Nat))
      generalize upN c = d at *
      go_wp2_with (go_at_call 33; refine U.out.mono ?_; rintro e w' ⟨rfl, rfl⟩)
      go_roundw
      case rel => exact ⟨k + 1, by omega, by go_num, HN, HNs⟩
      case measure => simp [intOf]; omega
    · obtain rfl : k = s.size := by omega
      have hcb := cells_back HC
      go_wp2_with fail
      go_ret
      exact ⟨rfl, hb⟩

set_option maxRecDepth 100000 in
theorem upper_any (s : ByteArray) (hs : s.size ≤ 1000000000) (w : World) :
    Calls Tryd.prog 25 #[.string s] w fun e w' => e = .returned (.string ⟨(upL s.data.toList).toArray⟩) ∧ Below w.heap.size w w' := by
  have C := Lib.hid (change_any s hs w)
  go_enter Tryd.func25, Tryd.ntmps25
  go_wp2_with (go_at_call 32; refine C.out.mono ?_; rintro e w' ⟨rfl, hb⟩)
  go_ret
  exact ⟨rfl, hb⟩

end Go.Proofs.YtchlmmglibladaaDoor
