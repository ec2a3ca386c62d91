/- flag: Name, and the reference's. -/
import Derived.Test.YtchlmmglibladaaDoorFlagNames
namespace Go.Proofs.YtchlmmglibladaaDoor
open Go.RowKit Go.Maps

theorem str_of {s : ByteArray} {l : List UInt8} (h : s.data.toList = l) : s = ⟨l.toArray⟩ := by subst h; cases s; rfl
theorem ret_str {a b : ByteArray} (h : a = b) : Ending.returned (.string a) = .returned (.string b) := by rw [h]

set_option maxRecDepth 100000 in
theorem name_any (n : Nat) (hn : n ≤ 255) (w : World) :
    Calls Tryd.prog 10 #[.int .u8 n] w fun e w' => e = .returned (.string ⟨(nameF n).toArray⟩) ∧ Below w.heap.size w w' := by
  have N := Lib.hid (names_any w)
  go_enter Tryd.func10, Tryd.ntmps10
  go_wp2_with fail
  refine N.out.mono ?_
  rintro e w1 ⟨rfl, ho, hb⟩
  have HO := Lib.hid ho
  clear ho N
  go_wp2_with (at_lookup; refine wpList_lookup_own_string _ rfl _ _ 38 rfl 22 9 keyF Tryd.underlying38 Tryd.underlying9 (zeroS _) w.heap.size 5 _ rfl HO.out _ _ rfl (kF n hn) ?_; intro s hat; have HA := Lib.hid hat; clear hat)
  go_ret
  refine ⟨ret_str (str_of ?_), hb⟩
  have h := HA.out
  rw [show (DataW.lit (.string []) : DataW Unit) = strD [] from rfl, nm_name] at h
  unfold strD at h
  injection h with h
  injection h with h
  exact h.symm

set_option maxRecDepth 100000 in
theorem refName_any (n : Nat) (w : World) :
    Calls Tryd.prog 12 #[.int .i64 n] w fun e w' => e = .returned (.string ⟨(nameF n).toArray⟩) ∧ w = w' := by
  by_cases h1 : n = 1
  · subst h1
    go_enter Tryd.func12, Tryd.ntmps12
    go_wp2
    go_ret
    exact ⟨rfl, rfl⟩
  by_cases h2 : n = 2
  · subst h2
    go_enter Tryd.func12, Tryd.ntmps12
    go_wp2
    go_ret
    exact ⟨rfl, rfl⟩
  by_cases h4 : n = 4
  · subst h4
    go_enter Tryd.func12, Tryd.ntmps12
    go_wp2
    go_ret
    exact ⟨rfl, rfl⟩
  by_cases h8 : n = 8
  · subst h8
    go_enter Tryd.func12, Tryd.ntmps12
    go_wp2
    go_ret
    exact ⟨rfl, rfl⟩
  by_cases h16 : n = 16
  · subst h16
    go_enter Tryd.func12, Tryd.ntmps12
    go_wp2
    go_ret
    exact ⟨rfl, rfl⟩
  have R := Lib.hid (show nameF n = [] by unfold nameF; rw [if_neg h1, if_neg h2, if_neg h4, if_neg h8, if_neg h16])
  have b1 : ((n : Int) == 1) = false := by simp; omega
  have b2 : ((n : Int) == 2) = false := by simp; omega
  have b4 : ((n : Int) == 4) = false := by simp; omega
  have b8 : ((n : Int) == 8) = false := by simp; omega
  have b16 : ((n : Int) == 16) = false := by simp; omega
  go_enter Tryd.func12, Tryd.ntmps12
  go_wp2
  go_ret
  exact ⟨by rw [R.out]; rfl, rfl⟩
end Go.Proofs.YtchlmmglibladaaDoor
