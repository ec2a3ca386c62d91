/- The reference's Upper. -/
import Derived.Test.YtchlmmglibladaaDoorCharUp
namespace Go.Proofs.YtchlmmglibladaaDoor
open Go.RowKit

/-- '[]byte{c}' read back as a string. -/
theorem byte_back (w : World) (c : UInt8) (x : Int) (hx : x = c.toNat) : (convert 59 9 (.slice (some ⟨w.heap.size, 0, none⟩) 1 1)).run Tryd.prog (w.alloc (.cells #[.int .u8 x] 5)) = .ok (.string ⟨#[c]⟩) (w.alloc (.cells #[.int .u8 x] 5)) := by
  subst hx
  exact run_convert_bytes_back (P := Tryd.prog) (w.alloc (.cells #[.int .u8 c.toNat] 5)) 59 9 5 ⟨w.heap.size, 0, none⟩ 1 [c] Tryd.underlying59 Tryd.underlying5 Tryd.underlying9 (fun j hj => by
    obtain rfl : j = 0 := by simpa using hj
    rw [Lib.add_plain, World.cell?_alloc_new]
    rfl)
theorem up_snoc (s : ByteArray) (k : Nat) (h : k < s.size) : Value.string (ByteArray.mk (upL (s.data.toList.take k)).toArray ++ ByteArray.mk #[upB s[k]]) = Value.string ⟨(upL (s.data.toList.take (k + 1))).toArray⟩ := by
  congr 1
  apply ByteArray.ext
  rw [take_snocB s k h]
  simp [upL, ByteArray.data_append]

set_option maxRecDepth 100000 in
set_option maxHeartbeats 400000 in
theorem refUpper_any (s : ByteArray) (hs : s.size ≤ 1000000000) (w : World) :
    Calls Tryd.prog 34 #[.string s] w fun e w' => e = .returned (.string ⟨(upL s.data.toList).toArray⟩) ∧ Below w.heap.size w w' := by
  go_enter Tryd.func34, Tryd.ntmps34
  go_wp2_with fail
  go_loopw [3, 4] (fun o i wr => ∃ k : Nat, k ≤ s.size ∧ i = .int .i64 k ∧ o = .string ⟨(upL (s.data.toList.take k)).toArray⟩ ∧ Below w.heap.size w wr) (fun _ i _ => s.size - (intOf i).toNat)
  case atStart => exact ⟨0, Nat.zero_le _, rfl, rfl, Below.refl _ _⟩
  case round =>
    obtain ⟨k, hk, rfl, rfl, hb⟩ := hrel
    by_cases hlt : k < s.size
    · have hlen : (upL (s.data.toList.take k)).length ≤ k := by rw [upL_length]; exact List.length_take_le _ _
      have hn : s[k].toNat ≤ 255 := by have := s[k].toNat_lt; omega
      by_cases ha : 97 ≤ s[k].toNat
      · by_cases hz : s[k].toNat ≤ 122
        · have hcv := byte_back wr (upB s[k]) ((s[k].toNat : Int) - 32) (by rw [upB_toNat]; unfold upN; rw [if_pos ⟨ha, hz⟩]; omega)
          go_wp2_with fail
          go_roundw
          case rel => exact ⟨k + 1, by omega, by go_num, up_snoc s k hlt, (hb.alloc hb.size _)⟩
          case measure => simp [intOf]; omega
        · have hcv := byte_back wr (upB s[k]) (s[k].toNat : Int) (by rw [upB_toNat]; unfold upN; rw [if_neg (by omega)])
          go_wp2_with fail
          go_roundw
          case rel => exact ⟨k + 1, by omega, by go_num, up_snoc s k hlt, (hb.alloc hb.size _)⟩
          case measure => simp [intOf]; omega
      · have hcv := byte_back wr (upB s[k]) (s[k].toNat : Int) (by rw [upB_toNat]; unfold upN; rw [if_neg (by omega)])
        go_wp2_with fail
        go_roundw
        case rel => exact ⟨k + 1, by omega, by go_num, up_snoc s k hlt, (hb.alloc hb.size _)⟩
        case measure => simp [intOf]; omega
    · obtain rfl : k = s.size := by omega
      go_wp2_with fail
      go_ret
      exact ⟨by rw [take_all]; rfl, hb⟩
end Go.Proofs.YtchlmmglibladaaDoor
