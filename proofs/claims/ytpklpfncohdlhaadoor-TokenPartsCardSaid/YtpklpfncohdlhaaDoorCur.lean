/- quote: the cursor: rest, pass, take, digits. -/
import Derived.Test.YtpklpfncohdlhaaDoorBy
import Derived.Deep.QuietTactic
import Derived.BigQuiet
import Derived.Lib.SmallJoins
namespace Go.Proofs.YtpklpfncohdlhaaDoor
open Go.RowKit

/-- A cursor in block bs over the bytes l. -/
structure Cur (bs : Nat) (A : Option Addr) (c : Nat) (l : List UInt8) (at_ : Int) (w : World) : Prop where
  blk : w.heap[bs]? = some (.cells #[.slice A l.length c, .int .i64 at_] 89 (0, 0))
  lies : ByAt bs w A c l

section
variable {bs c : Nat} {A : Option Addr} {l : List UInt8} {at_ : Int} {w w' : World}
theorem Cur.grow (h : Cur bs A c l at_ w) (hb : Below w.heap.size w w') : Cur bs A c l at_ w' :=
  ⟨(hb.block bs (Array.getElem?_eq_some_iff.1 h.blk).1).trans h.blk, h.lies.grow hb⟩
theorem Cur.c0 (h : Cur bs A c l at_ w) : w.cell? ⟨bs, 0, none⟩ = some (.slice A l.length c) := cell_of_row w bs 0 _ _ _ h.blk
theorem Cur.c1 (h : Cur bs A c l at_ w) : w.cell? ⟨bs, 1, none⟩ = some (.int .i64 at_) := cell_of_row w bs 1 _ _ _ h.blk
theorem Cur.lt (h : Cur bs A c l at_ w) : bs < w.heap.size := (Array.getElem?_eq_some_iff.1 h.blk).1
theorem Cur.set (h : Cur bs A c l at_ w) (x : Int) : Cur bs A c l x (w.setCell ⟨bs, 1, none⟩ (.int .i64 x)) := by
  refine ⟨?_, h.lies.below ((Below.refl bs w).setCell (p := ⟨bs, 1, none⟩) (Nat.le_refl _) _)⟩
  rw [Joins.block_setCell h.blk]
  rfl
end
theorem drewN_below (w : World) (n : Nat) : Below w.heap.size w (w.drewN n) := ⟨rfl, rfl, rfl, Nat.le_refl _, fun _ _ => rfl⟩

set_option maxRecDepth 100000 in
set_option maxHeartbeats 1000000 in
theorem rest_in (bs c : Nat) (A : Option Addr) (l : List UInt8) (k : Nat) (hk : k ≤ l.length) (_hl : l.length ≤ 1000000000) (w : World) (h : Cur bs A c l (k : Int) w) :
    Calls Tryd.prog 73 #[.pointer (some ⟨bs, 0, none⟩)] w fun e w' => e = .returned (.slice (offA A c k) (l.length - k) (c - k)) ∧ Below w.heap.size w w' := by
  have c0 := h.c0
  have c1 := h.c1
  have hsl := fun W => slice_l A l.length c k hk W
  have hse := fun x lo hi mx W => sliceAt_eq x lo hi mx W
  have e1 : decide ((k : Int) < 0) = false := by simp
  have e2 : decide (l.length < k) = false := by simp; omega
  have e3 : decide ((l.length : Int) < (k : Int)) = false := by simp; omega
  clear h
  go_enter Tryd.func73, Tryd.ntmps73
  go_wp2_with fail
  go_quiet (fail)
  go_wp2_with fail
  go_quiet (fail)
  go_wp2_with fail
  go_ret
  exact ⟨rfl, below_next (drewN_below _ _) (drewN_below _ _)⟩

set_option maxRecDepth 100000 in
set_option maxHeartbeats 1000000 in
theorem rest_out (bs c : Nat) (A : Option Addr) (l : List UInt8) (x : Int) (h1 : -9223372036854775808 ≤ x) (h2 : x ≤ 9223372036854775807) (hx : x < 0 ∨ (l.length : Int) < x) (_hl : l.length ≤ 1000000000) (w : World) (h : Cur bs A c l x w) :
    Calls Tryd.prog 73 #[.pointer (some ⟨bs, 0, none⟩)] w fun e w' => e = .returned (.slice none 0 0) ∧ Below w.heap.size w w' := by
  have c0 := h.c0
  have c1 := h.c1
  clear h
  by_cases hn : x < 0
  · have e1 : decide (x < 0) = true := by simp; omega
    clear hx
    go_enter Tryd.func73, Tryd.ntmps73
    go_wp2_with fail
    go_quiet (fail)
    go_wp2_with fail
    go_ret
    exact ⟨rfl, drewN_below _ _⟩
  · have e1 : decide (x < 0) = false := by simp; omega
    have e2 : decide ((l.length : Int) < x) = true := by simp; omega
    clear hx
    go_enter Tryd.func73, Tryd.ntmps73
    go_wp2_with fail
    go_quiet (fail)
    go_wp2_with fail
    go_ret
    exact ⟨rfl, drewN_below _ _⟩

set_option maxRecDepth 100000 in
set_option maxHeartbeats 1000000 in
theorem pass_t (bs c : Nat) (A : Option Addr) (l : List UInt8) (k : Nat) (x : UInt8) (hx : l[k]? = some x) (hl : l.length ≤ 1000000000) (w : World) (h : Cur bs A c l (k : Int) w) :
    Calls Tryd.prog 68 #[.pointer (some ⟨bs, 0, none⟩), .int .u8 (x.toNat : Int)] w fun e w' => e = .returned (.bool true) ∧ Hid (Cur bs A c l ((k : Int) + 1) w') ∧ Below bs w w' := by
  obtain ⟨hlt, hxe⟩ := List.getElem?_eq_some_iff.1 hx
  have R := Lib.hid (rest_in bs c A l k (by omega) hl w h)
  have hR := h.lies.drop (lo := k) (by omega)
  have HH := Lib.hid h
  have hbs := h.lt
  have hlen : 0 < l.length - k := by omega
  clear hx h
  go_enter Tryd.func68, Tryd.ntmps68
  go_wp2_with fail
  refine R.out.mono ?_
  rintro e w1 ⟨rfl, hb⟩
  have H1 := Lib.hid (HH.out.grow hb)
  obtain ⟨b, off, he, _, _, hc⟩ := (hR.grow hb).cell (j := 0) (by rw [List.length_drop]; omega)
  rw [List.getElem_drop, show l[k + 0] = x by simpa using hxe] at hc
  simp only [Nat.add_zero] at hc
  rw [he]
  have c1 := H1.out.c1
  have f1 := Joins.unfrozen_of_block H1.out.blk 1
  have HS := Lib.hid (H1.out.set ((k : Int) + 1))
  have HB := Lib.hid ((hb.mono (Nat.le_of_lt hbs)).setCell (p := ⟨bs, 1, none⟩) (Nat.le_refl _) (.int .i64 ((k : Int) + 1)))
  clear R hR HH hb he hxe H1
  go_wp2_with fail
  go_ret
  exact ⟨rfl, HS.out, HB.out⟩

set_option maxRecDepth 100000 in
set_option maxHeartbeats 1000000 in
theorem pass_f (bs c : Nat) (A : Option Addr) (l : List UInt8) (k : Nat) (hk : k ≤ l.length) (x : UInt8) (hx : l[k]? ≠ some x) (hl : l.length ≤ 1000000000) (w : World) (h : Cur bs A c l (k : Int) w) :
    Calls Tryd.prog 68 #[.pointer (some ⟨bs, 0, none⟩), .int .u8 (x.toNat : Int)] w fun e w' => e = .returned (.bool false) ∧ Hid (Cur bs A c l (k : Int) w') ∧ Below bs w w' := by
  have R := Lib.hid (rest_in bs c A l k hk hl w h)
  have hR := h.lies.drop (lo := k) hk
  have HH := Lib.hid h
  have hbs := h.lt
  clear h
  by_cases hlt : k < l.length
  · have hne : l[k].toNat ≠ x.toNat := fun e => hx (by rw [List.getElem?_eq_getElem hlt]; congr 1; exact UInt8.toNat_inj.1 e)
    have e1 : ((l[k].toNat : Int) == (x.toNat : Int)) = false := by simp; omega
    have e2 : ((l[k].toNat : Int) != (x.toNat : Int)) = true := by simp; omega
    have hlen : 0 < l.length - k := by omega
    clear hx hne
    go_enter Tryd.func68, Tryd.ntmps68
    go_wp2_with fail
    refine R.out.mono ?_
    rintro e w1 ⟨rfl, hb⟩
    have H1 := Lib.hid (HH.out.grow hb)
    obtain ⟨b, off, he, _, _, hc⟩ := (hR.grow hb).cell (j := 0) (by rw [List.length_drop]; omega)
    rw [List.getElem_drop] at hc
    simp only [Nat.add_zero] at hc
    rw [he]
    clear R hR HH he
    go_wp2_with fail
    go_ret
    exact ⟨rfl, H1.out, hb.mono (Nat.le_of_lt hbs)⟩
  · obtain rfl : k = l.length := by omega
    rw [Nat.sub_self] at R
    clear hx hR
    go_enter Tryd.func68, Tryd.ntmps68
    go_wp2_with fail
    refine R.out.mono ?_
    rintro e w1 ⟨rfl, hb⟩
    have H1 := Lib.hid (HH.out.grow hb)
    clear R HH
    go_wp2_with fail
    go_ret
    exact ⟨rfl, H1.out, hb.mono (Nat.le_of_lt hbs)⟩

set_option maxRecDepth 100000 in
set_option maxHeartbeats 1000000 in
theorem pass_out (bs c : Nat) (A : Option Addr) (l : List UInt8) (x : Int) (h1 : -9223372036854775808 ≤ x) (h2 : x ≤ 9223372036854775807) (hx : x < 0 ∨ (l.length : Int) < x) (y : Int) (hl : l.length ≤ 1000000000) (w : World) (h : Cur bs A c l x w) :
    Calls Tryd.prog 68 #[.pointer (some ⟨bs, 0, none⟩), .int .u8 y] w fun e w' => e = .returned (.bool false) ∧ Hid (Cur bs A c l x w') ∧ Below bs w w' := by
  have R := Lib.hid (rest_out bs c A l x h1 h2 hx hl w h)
  have HH := Lib.hid h
  have hbs := h.lt
  clear h hx
  go_enter Tryd.func68, Tryd.ntmps68
  go_wp2_with fail
  refine R.out.mono ?_
  rintro e w1 ⟨rfl, hb⟩
  have H1 := Lib.hid (HH.out.grow hb)
  clear R HH
  go_wp2_with fail
  go_ret
  exact ⟨rfl, H1.out, hb.mono (Nat.le_of_lt hbs)⟩

theorem Cur.cast {bs c : Nat} {A : Option Addr} {l : List UInt8} {x y : Int} {w : World} (h : Cur bs A c l x w) (e : x = y) : Cur bs A c l y w := e ▸ h
theorem Cur.byte {bs c : Nat} {A : Option Addr} {l : List UInt8} {x : Int} {w : World} (h : Cur bs A c l x w) {k : Nat} {d : UInt8} (hd : l[k]? = some d) :
    ∃ b off, offA A c k = some ⟨b, off, none⟩ ∧ b < w.heap.size ∧ w.cell? ⟨b, off, none⟩ = some (.int .u8 (d.toNat : Int)) := by
  obtain ⟨hlt, rfl⟩ := List.getElem?_eq_some_iff.1 hd
  obtain ⟨b, off, he, _, hw, hc⟩ := (h.lies.drop (lo := k) (by omega)).cell (j := 0) (by rw [List.length_drop]; omega)
  rw [List.getElem_drop] at hc
  simp only [Nat.add_zero] at hc
  exact ⟨b, off, he, hw, hc⟩
theorem cur_new {B c : Nat} {A : Option Addr} {l : List UInt8} {w : World} (hA : ByAt B w A c l) (x : Int) : Cur w.heap.size A c l x (w.alloc (.cells #[.slice A l.length c, .int .i64 x] 89)) :=
  ⟨heap_alloc_new _ _, hA.here.below ((Below.refl _ _).alloc (Nat.le_refl _) _)⟩

end Go.Proofs.YtpklpfncohdlhaaDoor
