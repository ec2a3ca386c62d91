/- All, over whatever class; the reference's three loops. -/
import Derived.Test.YtcdfocmmpmfnmaaDoorCharCls
namespace Go.Proofs.YtcdfocmmpmfnmaaDoor
open Go.RowKit

/-- Not empty, and each byte in the class. -/
def allL (g : Nat → Bool) (l : List UInt8) : Bool := !l.isEmpty && l.all fun c => g c.toNat

theorem take_snocB (s : ByteArray) (k : Nat) (h : k < s.size) : s.data.toList.take (k + 1) = s.data.toList.take k ++ [s[k]] := by
  rw [List.take_succ_eq_append_getElem (by simpa using h)]; rfl
theorem take_all (s : ByteArray) : s.data.toList.take s.size = s.data.toList := List.take_of_length_le (by simp)
theorem all_false (g : Nat → Bool) (s : ByteArray) (k : Nat) (h : k < s.size) (hg : g s[k].toNat = false) : allL g s.data.toList = false := by
  unfold allL
  have : s.data.toList.all (fun c => g c.toNat) = false := by
    rw [List.all_eq_false]
    exact ⟨s[k], by simp [ByteArray.getElem_eq_getElem_data], by simp [hg]⟩
  rw [this, Bool.and_false]
theorem all_done (g : Nat → Bool) (s : ByteArray) (h : (s.data.toList.take s.size).all (fun c => g c.toNat) = true) : allL g s.data.toList = !s.toList.isEmpty := by
  rw [take_all] at h
  unfold allL
  rw [h, Bool.and_true, btl]

set_option maxRecDepth 100000 in
set_option maxHeartbeats 400000 in
theorem all_any (F : FuncId) (g : Nat → Bool) (hF : ∀ n w, n ≤ 255 → Calls Tryd.prog F #[.int .u8 (n : Nat)] w fun e w' => e = .returned (.bool (g n)) ∧ Below w.heap.size w w')
    (hE : ∀ args w, (callFunc F args).run Tryd.prog w = .ok (.enter F args) w) (s : ByteArray) (hs : s.size ≤ 1000000000) (w : World) :
    Calls Tryd.prog 16 #[.string s, .func (Fn.func F) #[] #[]] w fun e w' => e = .returned (.bool (allL g s.data.toList)) ∧ Below w.heap.size w w' := by
  have HF := Lib.hid hF
  clear hF
  go_enter Tryd.func16, Tryd.ntmps16
  go_wp2_with fail
  go_loopw [8] (fun i wr => ∃ k : Nat, k ≤ s.size ∧ i = .int .i64 k ∧ (s.data.toList.take k).all (fun c => g c.toNat) = true ∧ Below w.heap.size w wr) (fun i _ => s.size - (intOf i).toNat)
  case atStart => exact ⟨0, Nat.zero_le _, rfl, rfl, Below.refl _ _⟩
  case round =>
    obtain ⟨k, hk, rfl, ha, hb⟩ := hrel
    have HA := Lib.hid ha
    clear ha
    by_cases hlt : k < s.size
    · have hn : s[k].toNat ≤ 255 := by have := s[k].toNat_lt; omega
      have C := Lib.hid (HF.out s[k].toNat wr hn)
      cases hg : g s[k].toNat with
      | true =>
        have HG := Lib.hid hg
        rw [hg] at C
        clear hg
        go_wp2_with fail
        refine C.out.mono ?_
        rintro e w' ⟨rfl, hb2⟩
        go_wp2
        go_roundw
        case rel => exact ⟨k + 1, by omega, by go_num, by rw [take_snocB s k hlt, List.all_append, HA.out, List.all_cons, HG.out]; rfl, below_step hb hb2 hb.size⟩
        case measure => simp [intOf]; omega
      | false =>
        have HG := Lib.hid (all_false g s k hlt hg)
        rw [hg] at C
        clear hg
        go_wp2_with fail
        refine C.out.mono ?_
        rintro e w' ⟨rfl, hb2⟩
        go_wp2
        go_ret
        exact ⟨ret_bool HG.out.symm, below_step hb hb2 hb.size⟩
    · obtain rfl : k = s.size := by omega
      have HG := Lib.hid (all_done g s HA.out)
      go_wp2_with fail
      go_ret
      exact ⟨ret_bool HG.out.symm, hb⟩

set_option maxRecDepth 100000 in
set_option maxHeartbeats 400000 in
theorem isAtom_any (s : ByteArray) (hs : s.size ≤ 1000000000) (w : World) :
    Calls Tryd.prog 17 #[.string s] w fun e w' => e = .returned (.bool (allL atomN s.data.toList)) ∧ w = w' := by
  go_enter Tryd.func17, Tryd.ntmps17
  go_wp2_with fail
  go_loop [3] (fun i => ∃ k : Nat, k ≤ s.size ∧ i = .int .i64 k ∧ (s.data.toList.take k).all (fun c => atomN c.toNat) = true) (fun i => s.size - (intOf i).toNat)
  case atStart => exact ⟨0, Nat.zero_le _, rfl, rfl⟩
  case round =>
    obtain ⟨k, hk, rfl, ha⟩ := hrel
    have HA := Lib.hid ha
    clear ha
    by_cases hlt : k < s.size
    · have hn : s[k].toNat ≤ 255 := by have := s[k].toNat_lt; omega
      have C := Lib.hid (refAtom_any s[k].toNat w hn)
      cases hg : atomN s[k].toNat with
      | true =>
        have HG := Lib.hid hg
        rw [hg] at C
        clear hg
        go_wp2_with fail
        refine C.out.mono ?_
        rintro e w' ⟨rfl, rfl⟩
        go_wp2
        go_round
        case rel => exact ⟨k + 1, by omega, by go_num, by rw [take_snocB s k hlt, List.all_append, HA.out, List.all_cons, HG.out]; rfl⟩
        case measure => simp [intOf]; omega
      | false =>
        have HG := Lib.hid (all_false atomN s k hlt hg)
        rw [hg] at C
        clear hg
        go_wp2_with fail
        refine C.out.mono ?_
        rintro e w' ⟨rfl, rfl⟩
        go_wp2
        go_ret
        exact ⟨ret_bool HG.out.symm, rfl⟩
    · obtain rfl : k = s.size := by omega
      have HG := Lib.hid (all_done atomN s HA.out)
      go_wp2_with fail
      go_ret
      exact ⟨ret_bool HG.out.symm, rfl⟩

set_option maxRecDepth 100000 in
set_option maxHeartbeats 400000 in
theorem isTag_any (s : ByteArray) (hs : s.size ≤ 1000000000) (w : World) :
    Calls Tryd.prog 18 #[.string s] w fun e w' => e = .returned (.bool (allL tagN s.data.toList)) ∧ w = w' := by
  go_enter Tryd.func18, Tryd.ntmps18
  go_wp2_with fail
  go_loop [3] (fun i => ∃ k : Nat, k ≤ s.size ∧ i = .int .i64 k ∧ (s.data.toList.take k).all (fun c => tagN c.toNat) = true) (fun i => s.size - (intOf i).toNat)
  case atStart => exact ⟨0, Nat.zero_le _, rfl, rfl⟩
  case round =>
    obtain ⟨k, hk, rfl, ha⟩ := hrel
    have HA := Lib.hid ha
    clear ha
    by_cases hlt : k < s.size
    · have hn : s[k].toNat ≤ 255 := by have := s[k].toNat_lt; omega
      have C := Lib.hid (refTag_any s[k].toNat w hn)
      cases hg : tagN s[k].toNat with
      | true =>
        have HG := Lib.hid hg
        rw [hg] at C
        clear hg
        go_wp2_with fail
        refine C.out.mono ?_
        rintro e w' ⟨rfl, rfl⟩
        go_wp2
        go_round
        case rel => exact ⟨k + 1, by omega, by go_num, by rw [take_snocB s k hlt, List.all_append, HA.out, List.all_cons, HG.out]; rfl⟩
        case measure => simp [intOf]; omega
      | false =>
        have HG := Lib.hid (all_false tagN s k hlt hg)
        rw [hg] at C
        clear hg
        go_wp2_with fail
        refine C.out.mono ?_
        rintro e w' ⟨rfl, rfl⟩
        go_wp2
        go_ret
        exact ⟨ret_bool HG.out.symm, rfl⟩
    · obtain rfl : k = s.size := by omega
      have HG := Lib.hid (all_done tagN s HA.out)
      go_wp2_with fail
      go_ret
      exact ⟨ret_bool HG.out.symm, rfl⟩

set_option maxRecDepth 100000 in
set_option maxHeartbeats 400000 in
theorem isText_any (s : ByteArray) (hs : s.size ≤ 1000000000) (w : World) :
    Calls Tryd.prog 19 #[.string s] w fun e w' => e = .returned (.bool (allL textN s.data.toList)) ∧ w = w' := by
  go_enter Tryd.func19, Tryd.ntmps19
  go_wp2_with fail
  go_loop [3] (fun i => ∃ k : Nat, k ≤ s.size ∧ i = .int .i64 k ∧ (s.data.toList.take k).all (fun c => textN c.toNat) = true) (fun i => s.size - (intOf i).toNat)
  case atStart => exact ⟨0, Nat.zero_le _, rfl, rfl⟩
  case round =>
    obtain ⟨k, hk, rfl, ha⟩ := hrel
    have HA := Lib.hid ha
    clear ha
    by_cases hlt : k < s.size
    · have hn : s[k].toNat ≤ 255 := by have := s[k].toNat_lt; omega
      have C := Lib.hid (refText_any s[k].toNat w hn)
      cases hg : textN s[k].toNat with
      | true =>
        have HG := Lib.hid hg
        rw [hg] at C
        clear hg
        go_wp2_with fail
        refine C.out.mono ?_
        rintro e w' ⟨rfl, rfl⟩
        go_wp2
        go_round
        case rel => exact ⟨k + 1, by omega, by go_num, by rw [take_snocB s k hlt, List.all_append, HA.out, List.all_cons, HG.out]; rfl⟩
        case measure => simp [intOf]; omega
      | false =>
        have HG := Lib.hid (all_false textN s k hlt hg)
        rw [hg] at C
        clear hg
        go_wp2_with fail
        refine C.out.mono ?_
        rintro e w' ⟨rfl, rfl⟩
        go_wp2
        go_ret
        exact ⟨ret_bool HG.out.symm, rfl⟩
    · obtain rfl : k = s.size := by omega
      have HG := Lib.hid (all_done textN s HA.out)
      go_wp2_with fail
      go_ret
      exact ⟨ret_bool HG.out.symm, rfl⟩
end Go.Proofs.YtcdfocmmpmfnmaaDoor
