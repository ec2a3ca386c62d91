/- The class of tag bytes: Tag, the reference's Atom and Tag; All over a class. -/
import Derived.Test.YtpklpfncohdlhaaDoorTextCls
namespace Go.Proofs.YtpklpfncohdlhaaDoor
open Go.RowKit

set_option maxRecDepth 100000 in
theorem tag_any (n : Nat) (w : World) (h1 : n ≤ 255) :
    Calls Tryd.prog 26 #[.int .u8 n] w fun e w' => e = .returned (.bool (tagN n)) ∧ Below w.heap.size w w' := by
  have H0 := has_any n _ _ _ h1 (word_at 18446727417826377728 8646911284282916863 0 0 (.func (Fn.func 52) #[] #[.pointer (some ⟨w.heap.size, 0, none⟩)]) 72 68 w n h1)
  have hb : bitAt 18446727417826377728 8646911284282916863 0 0 n = tagN n := tag_bit ⟨n, by omega⟩
  unfold bitAt at hb
  rw [hb] at H0
  have H := Lib.hid H0
  clear H0 hb
  have hf := fun (b : Nat) W => field_has b W
  go_enter Tryd.func26, Tryd.ntmps26
  go_wp2_with (first | (go_at_call 38; refine (classOf_any _ _ _ _ _).mono ?_; rintro e w' ⟨rfl, rfl⟩) | (go_at_call 52; refine H.out.mono ?_; rintro e w' ⟨rfl, rfl⟩))
  go_ret
  exact ⟨rfl, below_two _ _ _⟩

set_option maxRecDepth 100000 in
theorem refAtom_any (n : Nat) (w : World) (h1 : n ≤ 255) :
    Calls Tryd.prog 39 #[.int .u8 n] w fun e w' => e = .returned (.bool (atomN n)) ∧ w = w' := by
  by_cases hs : n = 40 ∨ n = 41 ∨ n = 123 ∨ n = 37 ∨ n = 42 ∨ n = 34 ∨ n = 92 ∨ n = 93
  · have hr : false = atomN n := by unfold atomN; simp; omega
    have R := Lib.hid hr
    clear hr
    go_enter Tryd.func39, Tryd.ntmps39
    go_wp2
    all_goals first | (go_ret; exact ⟨ret_bool R.out, rfl⟩) | (exfalso; omega)
  · have h2 : ¬ n = 40 := by omega
    have h3 : ¬ n = 41 := by omega
    have h4 : ¬ n = 123 := by omega
    have h5 : ¬ n = 37 := by omega
    have h6 : ¬ n = 42 := by omega
    have h7 : ¬ n = 34 := by omega
    have h8 : ¬ n = 92 := by omega
    have h9 : ¬ n = 93 := by omega
    clear hs
    by_cases ha : 32 < n
    · have R := Lib.hid (show decide ((n : Int) < 127) = atomN n by unfold atomN; rw [decide_eq_decide]; omega)
      go_enter Tryd.func39, Tryd.ntmps39
      go_wp2
      go_ret
      exact ⟨ret_bool R.out, rfl⟩
    · have R := Lib.hid (show false = atomN n by unfold atomN; simp; omega)
      go_enter Tryd.func39, Tryd.ntmps39
      go_wp2
      go_ret
      exact ⟨ret_bool R.out, rfl⟩

theorem refAtom_is (n : Nat) (w : World) (h1 : n ≤ 255) (b : Bool) (hb : atomN n = b) :
    Calls Tryd.prog 39 #[.int .u8 n] w fun e w' => e = .returned (.bool b) ∧ w = w' := by subst hb; exact refAtom_any n w h1

set_option maxRecDepth 100000 in
theorem refTag_any (n : Nat) (w : World) (h1 : n ≤ 255) :
    Calls Tryd.prog 27 #[.int .u8 n] w fun e w' => e = .returned (.bool (tagN n)) ∧ w = w' := by
  by_cases h93 : n = 93
  · subst h93
    have A := Lib.hid (refAtom_is 93 w (by omega) false (by decide))
    go_enter Tryd.func27, Tryd.ntmps27
    go_wp2_with (go_at_call 39; refine A.out.mono ?_; rintro e w' ⟨rfl, rfl⟩)
    go_ret
    exact ⟨rfl, rfl⟩
  · by_cases h43 : n = 43
    · subst h43
      have A := Lib.hid (refAtom_is 43 w (by omega) true (by decide))
      go_enter Tryd.func27, Tryd.ntmps27
      go_wp2_with (go_at_call 39; refine A.out.mono ?_; rintro e w' ⟨rfl, rfl⟩)
      go_ret
      exact ⟨rfl, rfl⟩
    · cases ha : atomN n with
      | true =>
        have A := Lib.hid (refAtom_is n w h1 true ha)
        have R := Lib.hid (show true = tagN n by unfold atomN at ha; unfold tagN; simp at ha; simp; omega)
        clear ha
        go_enter Tryd.func27, Tryd.ntmps27
        go_wp2_with (go_at_call 39; refine A.out.mono ?_; rintro e w' ⟨rfl, rfl⟩)
        go_ret
        exact ⟨ret_bool R.out, rfl⟩
      | false =>
        have A := Lib.hid (refAtom_is n w h1 false ha)
        have R := Lib.hid (show false = tagN n by unfold atomN at ha; unfold tagN; simp at ha; simp; omega)
        clear ha
        go_enter Tryd.func27, Tryd.ntmps27
        go_wp2_with (go_at_call 39; refine A.out.mono ?_; rintro e w' ⟨rfl, rfl⟩)
        go_ret
        exact ⟨ret_bool (by rw [← R.out]; simp; omega), rfl⟩

/-- Not empty, and each byte in the class. -/
def allL (g : Nat → Bool) (l : List UInt8) : Bool := !l.isEmpty && l.all fun c => g c.toNat

theorem all_false (g : Nat → Bool) (s : ByteArray) (k : Nat) (h : k < s.size) (hg : g s[k].toNat = false) : allL g s.data.toList = false := by
  unfold allL
  have : s.data.toList.all (fun c => g c.toNat) = false := by
    rw [List.all_eq_false]
    exact ⟨s[k], by simp [ByteArray.getElem_eq_getElem_data], by simp [hg]⟩
  rw [this, Bool.and_false]
theorem all_done (g : Nat → Bool) (s : ByteArray) (h : (s.data.toList.take s.size).all (fun c => g c.toNat) = true) : allL g s.data.toList = !s.toList.isEmpty := by
  rw [take_all] at h
  unfold allL
  rw [h, Bool.and_true, btl]

set_option maxRecDepth 100000 in
set_option maxHeartbeats 400000 in
theorem all_any (F : FuncId) (g : Nat → Bool) (hF : ∀ n w, n ≤ 255 → Calls Tryd.prog F #[.int .u8 (n : Nat)] w fun e w' => e = .returned (.bool (g n)) ∧ Below w.heap.size w w')
    (hE : ∀ args w, (callFunc F args).run Tryd.prog w = .ok (.enter F args) w) (s : ByteArray) (hs : s.size ≤ 1000000000) (w : World) :
    Calls Tryd.prog 25 #[.string s, .func (Fn.func F) #[] #[]] w fun e w' => e = .returned (.bool (allL g s.data.toList)) ∧ Below w.heap.size w w' := by
  have HF := Lib.hid hF
  clear hF
  go_enter Tryd.func25, Tryd.ntmps25
  go_wp2_with fail
  go_loopw [8] (fun i wr => ∃ k : Nat, k ≤ s.size ∧ i = .int .i64 k ∧ (s.data.toList.take k).all (fun c => g c.toNat) = true ∧ Below w.heap.size w wr) (fun i _ => s.size - (intOf i).toNat)
  case atStart => exact ⟨0, Nat.zero_le _, rfl, rfl, Below.refl _ _⟩
  case round =>
    obtain ⟨k, hk, rfl, ha, hb⟩ := hrel
    have HA := Lib.hid ha
    clear ha
    by_cases hlt : k < s.size
    · have hn : s[k].toNat ≤ 255 := by have := s[k].toNat_lt; omega
      have C := Lib.hid (HF.out s[k].toNat wr hn)
      cases hg : g s[k].toNat with
      | true =>
        have HG := Lib.hid hg
        rw [hg] at C
        clear hg
        go_wp2_with fail
        refine C.out.mono ?_
        rintro e w' ⟨rfl, hb2⟩
        go_wp2
        go_roundw
        case rel => exact ⟨k + 1, by omega, by go_num, by rw [take_snocB s k hlt, List.all_append, HA.out, List.all_cons, HG.out]; rfl, below_step hb hb2 hb.size⟩
        case measure => simp [intOf]; omega
      | false =>
        have HG := Lib.hid (all_false g s k hlt hg)
        rw [hg] at C
        clear hg
        go_wp2_with fail
        refine C.out.mono ?_
        rintro e w' ⟨rfl, hb2⟩
        go_wp2
        go_ret
        exact ⟨ret_bool HG.out.symm, below_step hb hb2 hb.size⟩
    · obtain rfl : k = s.size := by omega
      have HG := Lib.hid (all_done g s HA.out)
      go_wp2_with fail
      go_ret
      exact ⟨ret_bool HG.out.symm, hb⟩

end Go.Proofs.YtpklpfncohdlhaaDoor
