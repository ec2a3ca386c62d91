/- quote: the cursor: take. -/
import Derived.Test.YtpklpfncohdlhaaDoorCur
namespace Go.Proofs.YtpklpfncohdlhaaDoor
open Go.RowKit

set_option maxRecDepth 100000 in
set_option maxHeartbeats 1000000 in
theorem take_t (bs c : Nat) (A : Option Addr) (l : List UInt8) (k n : Nat) (hn : k + n ≤ l.length) (hl : l.length ≤ 1000000000) (w : World) (h : Cur bs A c l (k : Int) w) :
    Calls Tryd.prog 71 #[.pointer (some ⟨bs, 0, none⟩), .int .i64 (n : Int)] w fun e w' => e = .returned (.tuple #[.slice (offA A c k) n (c - k), .bool true]) ∧ Hid (Cur bs A c l ((k : Int) + (n : Int)) w') ∧ Below bs w w' := by
  have R := Lib.hid (rest_in bs c A l k (by omega) hl w h)
  have hle := h.lies.le
  have HH := Lib.hid h
  have hbs := h.lt
  have hsl := fun W => slice_h (offA A c k) (l.length - k) (c - k) n (by omega) W
  have hse := fun x lo hi mx W => sliceAt_eq x lo hi mx W
  have e1 : decide (l.length - k < n) = false := by simp; omega
  clear h
  go_enter Tryd.func71, Tryd.ntmps71
  go_wp2_with fail
  refine R.out.mono ?_
  rintro e w1 ⟨rfl, hb⟩
  have H1 := Lib.hid (HH.out.grow hb)
  have c1 := H1.out.c1
  have f1 := Joins.unfrozen_of_block H1.out.blk 1
  have HS := Lib.hid (H1.out.set ((k : Int) + (n : Int)))
  have HB := Lib.hid ((hb.mono (Nat.le_of_lt hbs)).setCell (p := ⟨bs, 1, none⟩) (Nat.le_refl _) (.int .i64 ((k : Int) + (n : Int))))
  clear R HH hb H1
  go_wp2_with fail
  go_ret2
  exact ⟨rfl, HS.out, HB.out⟩

set_option maxRecDepth 100000 in
set_option maxHeartbeats 1000000 in
theorem take_f (bs c : Nat) (A : Option Addr) (l : List UInt8) (k n : Nat) (hk : k ≤ l.length) (hn : l.length < k + n) (hl : l.length ≤ 1000000000) (w : World) (h : Cur bs A c l (k : Int) w) :
    Calls Tryd.prog 71 #[.pointer (some ⟨bs, 0, none⟩), .int .i64 (n : Int)] w fun e w' => e = .returned (.tuple #[.slice none 0 0, .bool false]) ∧ Hid (Cur bs A c l (k : Int) w') ∧ Below bs w w' := by
  have R := Lib.hid (rest_in bs c A l k hk hl w h)
  have HH := Lib.hid h
  have hbs := h.lt
  have e1 : decide (l.length - k < n) = true := by simp; omega
  clear h
  go_enter Tryd.func71, Tryd.ntmps71
  go_wp2_with fail
  refine R.out.mono ?_
  rintro e w1 ⟨rfl, hb⟩
  have H1 := Lib.hid (HH.out.grow hb)
  clear R HH
  go_wp2_with fail
  go_ret2
  exact ⟨rfl, H1.out, hb.mono (Nat.le_of_lt hbs)⟩
end Go.Proofs.YtpklpfncohdlhaaDoor
