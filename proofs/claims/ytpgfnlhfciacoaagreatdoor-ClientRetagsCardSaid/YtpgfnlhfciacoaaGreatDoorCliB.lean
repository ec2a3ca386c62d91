/- bytes: Equal, HasSuffix, TrimSuffix of the end of a line. -/
import Derived.Test.YtpgfnlhfciacoaaGreatDoorGa
import Derived.IntWalk
namespace Go.Proofs.YtpgfnlhfciacoaaGreatDoor
open Go.RowKit

set_option maxRecDepth 100000 in
theorem equalS_any (B1 B2 : Nat) (A A2 : Option Addr) (c d n n2 : Nat) (l m : List UInt8) (hn : l.length = n) (hn2 : m.length = n2) (w : World) (h1 : ByAt B1 w A c l) (h2 : ByAt B2 w A2 d m) :
    Calls Tryz.prog 47 #[.slice A n c, .slice A2 n2 d] w fun e w' => e = .returned (.bool (l == m)) ∧ w = w' := by
  have k1 := convS B1 w A c n l h1 hn
  have k2 := convS B2 w A2 d n2 m h2 hn2
  cases hq : (l == m)
  all_goals
    have HQ := Lib.hid hq
    clear h1 h2 hn hn2
    go_enter Tryz.func47, Tryz.ntmps47
    go_wp2_with fail
    go_ret
    exact ⟨by first | rfl | simp, rfl⟩

set_option maxRecDepth 100000 in
set_option maxHeartbeats 1000000 in
theorem hasSuf_any (B B2 : Nat) (A A2 : Option Addr) (c d n : Nat) (T : List UInt8) (hn : T.length + 2 = n) (hl : n ≤ 1000000000) (w : World) (h1 : ByAt B w A c (T ++ [13, 10])) (h2 : ByAt B2 w A2 d [13, 10]) :
    Calls Tryz.prog 83 #[.slice A n c, .slice A2 2 d] w fun e w' => e = .returned (.bool true) ∧ w = w' := by
  have hln : (T ++ [13, 10]).length = n := by simpa using hn
  have hd := h1.drop (lo := T.length) (by simp)
  have hE : List.drop T.length (T ++ [13, 10]) = ([13, 10] : List UInt8) := by simp
  rw [hE] at hd
  have EQ := Lib.hid (equalS_any B B2 (offA A c T.length) A2 (c - T.length) d 2 2 [13, 10] [13, 10] rfl rfl w hd h2)
  rw [show (([13, 10] : List UInt8) == [13, 10]) = true from rfl] at EQ
  have hsl := fun W => slice_l A n c T.length (by omega) W
  have hse := fun x lo hi mx W => sliceAt_eq x lo hi mx W
  obtain ⟨m, hm⟩ : ∃ m, T.length = m := ⟨_, rfl⟩
  rw [hm] at hsl EQ hn
  have e1 : (n : Int) - 2 = (m : Int) := by omega
  have e2 : n - m = 2 := by omega
  rw [e2] at hsl
  have g1 : (2 : Int) ≤ (n : Int) := by omega
  have w1 : IntKind.i64.wrap (m : Int) = (m : Int) := IntWalk.i64_in _ (by omega)
  clear hn hln hd hE h1 h2 hl hm e2
  go_enter Tryz.func83, Tryz.ntmps83
  go_wp2_with fail
  refine EQ.out.mono ?_
  rintro e w' ⟨rfl, rfl⟩
  go_wp2_with fail
  go_ret
  exact ⟨rfl, rfl⟩

set_option maxRecDepth 100000 in
set_option maxHeartbeats 1000000 in
theorem trimSuf_any (B B2 : Nat) (A A2 : Option Addr) (c d n m : Nat) (T : List UInt8) (hm : T.length = m) (hn : m + 2 = n) (hl : n ≤ 1000000000) (w : World) (h1 : ByAt B w A c (T ++ [13, 10])) (h2 : ByAt B2 w A2 d [13, 10]) :
    Calls Tryz.prog 48 #[.slice A n c, .slice A2 2 d] w fun e w' => e = .returned (.slice A m c) ∧ w = w' := by
  have HS := Lib.hid (hasSuf_any B B2 A A2 c d n T (by omega) hl w h1 h2)
  have hle := h1.le
  rw [List.length_append] at hle
  simp only [List.length_cons, List.length_nil] at hle
  have hsl := fun W => slice_h A n c m (by omega) W
  have hse := fun x lo hi mx W => sliceAt_eq x lo hi mx W
  have e1 : (n : Int) - 2 = (m : Int) := by omega
  have w1 : IntKind.i64.wrap (m : Int) = (m : Int) := IntWalk.i64_in _ (by omega)
  clear hn h1 h2 hl hm hle
  go_enter Tryz.func48, Tryz.ntmps48
  go_wp2_with fail
  refine HS.out.mono ?_
  rintro e w' ⟨rfl, rfl⟩
  go_wp2_with fail
  go_ret
  exact ⟨rfl, rfl⟩
end Go.Proofs.YtpgfnlhfciacoaaGreatDoor
