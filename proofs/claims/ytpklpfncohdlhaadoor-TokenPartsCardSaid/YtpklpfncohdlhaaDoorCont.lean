/- quote: are all bytes text? slices.ContainsFunc at the closure of Quoted; special. -/
import Derived.Test.YtpklpfncohdlhaaDoorBy
import Derived.Test.YtpklpfncohdlhaaDoorQMath
import Derived.Test.YtpklpfncohdlhaaDoorTextCls
namespace Go.Proofs.YtpklpfncohdlhaaDoor
open Go.RowKit

set_option maxRecDepth 100000 in
theorem notText_any (n : Nat) (h : n ≤ 255) (w : World) :
    Calls Tryd.prog 54 #[.int .u8 n] w fun e w' => e = .returned (.bool (!textN n)) ∧ Below w.heap.size w w' := by
  have C := Lib.hid (text_any n w h)
  go_enter Tryd.func54, Tryd.ntmps54
  go_wp2_with fail
  refine C.out.mono ?_
  rintro e w1 ⟨rfl, hb⟩
  go_wp2_with fail
  go_ret
  exact ⟨rfl, hb⟩

/-- What IndexFunc finds. -/
def IdxP (l : List UInt8) (e : Ending) : Prop := if allT l = true then e = .returned (.int .i64 (-1)) else ∃ k : Nat, e = .returned (.int .i64 k) ∧ k < l.length

set_option maxRecDepth 100000 in
set_option maxHeartbeats 1000000 in
theorem idxText_any (B : Nat) (A : Option Addr) (c : Nat) (l : List UInt8) (hl : l.length ≤ 1000000000) (w : World) (hA : ByAt B w A c l) :
    Calls Tryd.prog 65 #[.slice A l.length c, .func (Fn.func 54) #[] #[]] w fun e w' => IdxP l e ∧ Below w.heap.size w w' := by
  have NT := Lib.hid (fun n h w1 => notText_any n h w1)
  have HA := Lib.hid hA
  clear hA
  go_enter Tryd.func65, Tryd.ntmps65
  go_wp2_with fail
  go_loopw [8] (fun i wr => ∃ k : Nat, k ≤ l.length ∧ i = .int .i64 k ∧ Hid (allT (l.take k) = true) ∧ Below w.heap.size w wr) (fun i _ => l.length - (intOf i).toNat)
  case atStart => exact ⟨0, Nat.zero_le _, rfl, rfl, Below.refl _ _⟩
  case round =>
    obtain ⟨k, hk, rfl, ha, hb⟩ := hrel
    by_cases hlt : k < l.length
    · obtain ⟨b, off, rfl, _, _, hc⟩ := (HA.out.grow hb).cell hlt
      have hn : l[k].toNat ≤ 255 := by have := l[k].toNat_lt; omega
      have C := NT.out l[k].toNat hn wr
      cases ht : textN l[k].toNat with
      | true =>
        have HN := Lib.hid (allT_snoc l k hlt ha.out ht)
        rw [ht] at C
        have C := Lib.hid C
        clear ht
        go_wp2_with fail
        refine C.out.mono ?_
        rintro e w' ⟨rfl, hb2⟩
        go_wp2_with fail
        go_roundw
        case rel => exact ⟨k + 1, by omega, by go_num, HN.out, below_step hb hb2 hb.size⟩
        case measure => simp [intOf]; omega
      | false =>
        have HN := Lib.hid (allT_false l k hlt ht)
        rw [ht] at C
        have C := Lib.hid C
        clear ht
        go_wp2_with fail
        refine C.out.mono ?_
        rintro e w' ⟨rfl, hb2⟩
        go_wp2_with fail
        go_ret
        exact ⟨by unfold IdxP; rw [if_neg (by simp [HN.out])]; exact ⟨k, rfl, hlt⟩, below_step hb hb2 hb.size⟩
    · obtain rfl : k = l.length := by omega
      have HN := Lib.hid (show allT l = true by have := ha.out; rwa [List.take_length] at this)
      go_wp2_with fail
      go_ret
      exact ⟨by unfold IdxP; rw [if_pos HN.out]; rfl, hb⟩

set_option maxRecDepth 100000 in
theorem contText_any (B : Nat) (A : Option Addr) (c : Nat) (l : List UInt8) (hl : l.length ≤ 1000000000) (w : World) (hA : ByAt B w A c l) :
    Calls Tryd.prog 53 #[.slice A l.length c, .func (Fn.func 54) #[] #[]] w fun e w' => e = .returned (.bool (!allT l)) ∧ Below w.heap.size w w' := by
  have C := Lib.hid (idxText_any B A c l hl w hA)
  clear hA
  go_enter Tryd.func53, Tryd.ntmps53
  go_wp2_with fail
  refine C.out.mono ?_
  rintro e w1 ⟨hi, hb⟩
  unfold IdxP at hi
  cases ha : allT l with
  | true =>
    rw [if_pos ha] at hi
    subst hi
    have R := Lib.hid ha
    clear ha
    go_wp2_with fail
    go_ret
    exact ⟨ret_bool (by rw [R.out]; rfl), hb⟩
  | false =>
    rw [if_neg (by simp [ha])] at hi
    obtain ⟨k, rfl, _⟩ := hi
    have R := Lib.hid ha
    clear ha
    go_wp2_with fail
    go_ret
    exact ⟨ret_bool (by rw [R.out]; rfl), hb⟩

theorem special_any (n : Nat) (h : n ≤ 255) (w : World) :
    Calls Tryd.prog 57 #[.int .u8 n] w fun e w' => e = .returned (.bool (spN n)) ∧ w = w' := by
  by_cases h34 : n = 34
  · subst h34
    go_enter Tryd.func57, Tryd.ntmps57
    go_wp2_with fail
    go_ret
    exact ⟨rfl, rfl⟩
  · have e1 : ((n : Int) == 34) = false := by simp; omega
    have R := Lib.hid (show ((n : Int) == 92) = spN n by unfold spN; rw [Bool.eq_iff_iff]; simp; omega)
    go_enter Tryd.func57, Tryd.ntmps57
    go_wp2_with fail
    go_ret
    exact ⟨ret_bool R.out, rfl⟩
end Go.Proofs.YtpklpfncohdlhaaDoor
