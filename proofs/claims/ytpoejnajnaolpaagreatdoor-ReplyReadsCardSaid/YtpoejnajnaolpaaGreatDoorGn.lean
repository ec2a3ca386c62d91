/- quote: the cursor: rest, pass, take, digits. -/
import Derived.Test.YtpoejnajnaolpaaGreatDoorGa
import Derived.Deep.QuietTactic
import Derived.BigQuiet
import Derived.Lib.SmallJoins
import Derived.Test.YtpoejnajnaolpaaGreatDoorGb
import Derived.Test.YtpoejnajnaolpaaGreatDoorGc
import Derived.Deep.RegionWith
namespace Go.Proofs.YtpoejnajnaolpaaGreatDoor
open Go.RowKit

/-- A cursor in block bs over the bytes l. -/
structure Cur (bs : Nat) (A : Option Addr) (c : Nat) (l : List UInt8) (at_ : Int) (w : World) : Prop where
  blk : w.heap[bs]? = some (.cells #[.slice A l.length c, .int .i64 at_] 144 (0, 0))
  lies : ByAt bs w A c l

section
variable {bs c : Nat} {A : Option Addr} {l : List UInt8} {at_ : Int} {w w' : World}
theorem Cur.grow (h : Cur bs A c l at_ w) (hb : Below w.heap.size w w') : Cur bs A c l at_ w' :=
  ⟨(hb.block bs (Array.getElem?_eq_some_iff.1 h.blk).1).trans h.blk, h.lies.grow hb⟩
theorem Cur.c0 (h : Cur bs A c l at_ w) : w.cell? ⟨bs, 0, none⟩ = some (.slice A l.length c) := cell_of_row w bs 0 _ _ _ h.blk
theorem Cur.c1 (h : Cur bs A c l at_ w) : w.cell? ⟨bs, 1, none⟩ = some (.int .i64 at_) := cell_of_row w bs 1 _ _ _ h.blk
theorem Cur.lt (h : Cur bs A c l at_ w) : bs < w.heap.size := (Array.getElem?_eq_some_iff.1 h.blk).1
theorem Cur.set (h : Cur bs A c l at_ w) (x : Int) : Cur bs A c l x (w.setCell ⟨bs, 1, none⟩ (.int .i64 x)) := by
  refine ⟨?_, h.lies.below ((Below.refl bs w).setCell (p := ⟨bs, 1, none⟩) (Nat.le_refl _) _)⟩
  rw [Joins.block_setCell h.blk]
  rfl
end
theorem drewN_below (w : World) (n : Nat) : Below w.heap.size w (w.drewN n) := ⟨rfl, rfl, rfl, Nat.le_refl _, fun _ _ => rfl⟩

set_option maxRecDepth 100000 in
set_option maxHeartbeats 1000000 in
theorem rest_in (bs c : Nat) (A : Option Addr) (l : List UInt8) (k : Nat) (hk : k ≤ l.length) (_hl : l.length ≤ 1000000000) (w : World) (h : Cur bs A c l (k : Int) w) :
    Calls Tryz.prog 165 #[.pointer (some ⟨bs, 0, none⟩)] w fun e w' => e = .returned (.slice (offA A c k) (l.length - k) (c - k)) ∧ Below w.heap.size w w' := by
  have c0 := h.c0
  have c1 := h.c1
  have hsl := fun W => slice_l A l.length c k hk W
  have hse := fun x lo hi mx W => sliceAt_eq x lo hi mx W
  have e1 : decide ((k : Int) < 0) = false := by simp
  have e2 : decide (l.length < k) = false := by simp; omega
  have e3 : decide ((l.length : Int) < (k : Int)) = false := by simp; omega
  clear h
  go_enter Tryz.func165, Tryz.ntmps165
  go_wp2_with fail
  go_quiet (fail)
  go_wp2_with fail
  go_quiet (fail)
  go_wp2_with fail
  go_ret
  exact ⟨rfl, below_next (drewN_below _ _) (drewN_below _ _)⟩

set_option maxRecDepth 100000 in
set_option maxHeartbeats 1000000 in
theorem rest_out (bs c : Nat) (A : Option Addr) (l : List UInt8) (x : Int) (h1 : -9223372036854775808 ≤ x) (h2 : x ≤ 9223372036854775807) (hx : x < 0 ∨ (l.length : Int) < x) (_hl : l.length ≤ 1000000000) (w : World) (h : Cur bs A c l x w) :
    Calls Tryz.prog 165 #[.pointer (some ⟨bs, 0, none⟩)] w fun e w' => e = .returned (.slice none 0 0) ∧ Below w.heap.size w w' := by
  have c0 := h.c0
  have c1 := h.c1
  clear h
  by_cases hn : x < 0
  · have e1 : decide (x < 0) = true := by simp; omega
    clear hx
    go_enter Tryz.func165, Tryz.ntmps165
    go_wp2_with fail
    go_quiet (fail)
    go_wp2_with fail
    go_ret
    exact ⟨rfl, drewN_below _ _⟩
  · have e1 : decide (x < 0) = false := by simp; omega
    have e2 : decide ((l.length : Int) < x) = true := by simp; omega
    clear hx
    go_enter Tryz.func165, Tryz.ntmps165
    go_wp2_with fail
    go_quiet (fail)
    go_wp2_with fail
    go_ret
    exact ⟨rfl, drewN_below _ _⟩

set_option maxRecDepth 100000 in
set_option maxHeartbeats 1000000 in
theorem pass_t (bs c : Nat) (A : Option Addr) (l : List UInt8) (k : Nat) (x : UInt8) (hx : l[k]? = some x) (hl : l.length ≤ 1000000000) (w : World) (h : Cur bs A c l (k : Int) w) :
    Calls Tryz.prog 149 #[.pointer (some ⟨bs, 0, none⟩), .int .u8 (x.toNat : Int)] w fun e w' => e = .returned (.bool true) ∧ Hid (Cur bs A c l ((k : Int) + 1) w') ∧ Below bs w w' := by
  obtain ⟨hlt, hxe⟩ := List.getElem?_eq_some_iff.1 hx
  have R := Lib.hid (rest_in bs c A l k (by omega) hl w h)
  have hR := h.lies.drop (lo := k) (by omega)
  have HH := Lib.hid h
  have hbs := h.lt
  have hlen : 0 < l.length - k := by omega
  clear hx h
  go_enter Tryz.func149, Tryz.ntmps149
  go_wp2_with fail
  refine R.out.mono ?_
  rintro e w1 ⟨rfl, hb⟩
  have H1 := Lib.hid (HH.out.grow hb)
  obtain ⟨b, off, he, _, _, hc⟩ := (hR.grow hb).cell (j := 0) (by rw [List.length_drop]; omega)
  rw [List.getElem_drop, show l[k + 0] = x by simpa using hxe] at hc
  simp only [Nat.add_zero] at hc
  rw [he]
  have c1 := H1.out.c1
  have f1 := Joins.unfrozen_of_block H1.out.blk 1
  have HS := Lib.hid (H1.out.set ((k : Int) + 1))
  have HB := Lib.hid ((hb.mono (Nat.le_of_lt hbs)).setCell (p := ⟨bs, 1, none⟩) (Nat.le_refl _) (.int .i64 ((k : Int) + 1)))
  clear R hR HH hb he hxe H1
  go_wp2_with fail
  go_ret
  exact ⟨rfl, HS.out, HB.out⟩

set_option maxRecDepth 100000 in
set_option maxHeartbeats 1000000 in
theorem pass_f (bs c : Nat) (A : Option Addr) (l : List UInt8) (k : Nat) (hk : k ≤ l.length) (x : UInt8) (hx : l[k]? ≠ some x) (hl : l.length ≤ 1000000000) (w : World) (h : Cur bs A c l (k : Int) w) :
    Calls Tryz.prog 149 #[.pointer (some ⟨bs, 0, none⟩), .int .u8 (x.toNat : Int)] w fun e w' => e = .returned (.bool false) ∧ Hid (Cur bs A c l (k : Int) w') ∧ Below bs w w' := by
  have R := Lib.hid (rest_in bs c A l k hk hl w h)
  have hR := h.lies.drop (lo := k) hk
  have HH := Lib.hid h
  have hbs := h.lt
  clear h
  by_cases hlt : k < l.length
  · have hne : l[k].toNat ≠ x.toNat := fun e => hx (by rw [List.getElem?_eq_getElem hlt]; congr 1; exact UInt8.toNat_inj.1 e)
    have e1 : ((l[k].toNat : Int) == (x.toNat : Int)) = false := by simp; omega
    have e2 : ((l[k].toNat : Int) != (x.toNat : Int)) = true := by simp; omega
    have hlen : 0 < l.length - k := by omega
    clear hx hne
    go_enter Tryz.func149, Tryz.ntmps149
    go_wp2_with fail
    refine R.out.mono ?_
    rintro e w1 ⟨rfl, hb⟩
    have H1 := Lib.hid (HH.out.grow hb)
    obtain ⟨b, off, he, _, _, hc⟩ := (hR.grow hb).cell (j := 0) (by rw [List.length_drop]; omega)
    rw [List.getElem_drop] at hc
    simp only [Nat.add_zero] at hc
    rw [he]
    clear R hR HH he
    go_wp2_with fail
    go_ret
    exact ⟨rfl, H1.out, hb.mono (Nat.le_of_lt hbs)⟩
  · obtain rfl : k = l.length := by omega
    rw [Nat.sub_self] at R
    clear hx hR
    go_enter Tryz.func149, Tryz.ntmps149
    go_wp2_with fail
    refine R.out.mono ?_
    rintro e w1 ⟨rfl, hb⟩
    have H1 := Lib.hid (HH.out.grow hb)
    clear R HH
    go_wp2_with fail
    go_ret
    exact ⟨rfl, H1.out, hb.mono (Nat.le_of_lt hbs)⟩

set_option maxRecDepth 100000 in
set_option maxHeartbeats 1000000 in
theorem pass_out (bs c : Nat) (A : Option Addr) (l : List UInt8) (x : Int) (h1 : -9223372036854775808 ≤ x) (h2 : x ≤ 9223372036854775807) (hx : x < 0 ∨ (l.length : Int) < x) (y : Int) (hl : l.length ≤ 1000000000) (w : World) (h : Cur bs A c l x w) :
    Calls Tryz.prog 149 #[.pointer (some ⟨bs, 0, none⟩), .int .u8 y] w fun e w' => e = .returned (.bool false) ∧ Hid (Cur bs A c l x w') ∧ Below bs w w' := by
  have R := Lib.hid (rest_out bs c A l x h1 h2 hx hl w h)
  have HH := Lib.hid h
  have hbs := h.lt
  clear h hx
  go_enter Tryz.func149, Tryz.ntmps149
  go_wp2_with fail
  refine R.out.mono ?_
  rintro e w1 ⟨rfl, hb⟩
  have H1 := Lib.hid (HH.out.grow hb)
  clear R HH
  go_wp2_with fail
  go_ret
  exact ⟨rfl, H1.out, hb.mono (Nat.le_of_lt hbs)⟩

theorem Cur.cast {bs c : Nat} {A : Option Addr} {l : List UInt8} {x y : Int} {w : World} (h : Cur bs A c l x w) (e : x = y) : Cur bs A c l y w := e ▸ h
theorem Cur.byte {bs c : Nat} {A : Option Addr} {l : List UInt8} {x : Int} {w : World} (h : Cur bs A c l x w) {k : Nat} {d : UInt8} (hd : l[k]? = some d) :
    ∃ b off, offA A c k = some ⟨b, off, none⟩ ∧ b < w.heap.size ∧ w.cell? ⟨b, off, none⟩ = some (.int .u8 (d.toNat : Int)) := by
  obtain ⟨hlt, rfl⟩ := List.getElem?_eq_some_iff.1 hd
  obtain ⟨b, off, he, _, hw, hc⟩ := (h.lies.drop (lo := k) (by omega)).cell (j := 0) (by rw [List.length_drop]; omega)
  rw [List.getElem_drop] at hc
  simp only [Nat.add_zero] at hc
  exact ⟨b, off, he, hw, hc⟩
theorem cur_new {B c : Nat} {A : Option Addr} {l : List UInt8} {w : World} (hA : ByAt B w A c l) (x : Int) : Cur w.heap.size A c l x (w.alloc (.cells #[.slice A l.length c, .int .i64 x] 144)) :=
  ⟨heap_alloc_new _ _, hA.here.below ((Below.refl _ _).alloc (Nat.le_refl _) _)⟩

end Go.Proofs.YtpoejnajnaolpaaGreatDoor

namespace Go.Proofs.YtpoejnajnaolpaaGreatDoor
open Go.RowKit

theorem takeWhile_at {p : UInt8 → Bool} (r : List UInt8) (j : Nat) (hj : j ≤ r.length) (ha : (r.take j).all p = true) (hend : ∀ h : j < r.length, p r[j] = false) : r.takeWhile p = r.take j := by
  induction r generalizing j with
  | nil => simp
  | cons x r ih =>
    cases j with
    | zero =>
      have := hend (by simp)
      simp only [List.getElem_cons_zero] at this
      simp [this]
    | succ j =>
      rw [List.take_succ_cons, List.all_cons, Bool.and_eq_true] at ha
      rw [List.takeWhile_cons, if_pos ha.1, List.take_succ_cons, ih j (by simpa using hj) ha.2 (fun h => by have := hend (by simpa using h); rwa [List.getElem_cons_succ] at this)]
theorem dig_all_snoc (r : List UInt8) (j : Nat) (h : j < r.length) (ha : (r.take j).all isDig = true) (hd : isDig r[j] = true) : (r.take (j + 1)).all isDig = true := by
  rw [List.take_succ_eq_append_getElem h, List.all_append, ha]
  simp [hd]

/-- The digits at the front. -/
def dgL (r : List UInt8) : List UInt8 := r.takeWhile isDig
theorem dgL_le (r : List UInt8) : (dgL r).length ≤ r.length := List.takeWhile_sublist _ |>.length_le

set_option maxRecDepth 100000 in
set_option maxHeartbeats 2000000 in
theorem digits_any (bs c : Nat) (A : Option Addr) (l : List UInt8) (k : Nat) (hk : k ≤ l.length) (hl : l.length ≤ 1000000000) (w : World) (h : Cur bs A c l (k : Int) w) :
    Calls Tryz.prog 164 #[.pointer (some ⟨bs, 0, none⟩)] w fun e w' => e = .returned (.string ⟨(dgL (l.drop k)).toArray⟩) ∧ Hid (Cur bs A c l ((k : Int) + ((dgL (l.drop k)).length : Int)) w') ∧ Below bs w w' := by
  have R := Lib.hid (rest_in bs c A l k hk hl w h)
  have HH := Lib.hid h
  have hbs := h.lt
  have hle := h.lies.le
  have hse := fun x lo hi mx W => sliceAt_eq x lo hi mx W
  have HL := Lib.hid (show (l.drop k).length = l.length - k by rw [List.length_drop])
  have hR0 := h.lies.drop (lo := k) hk
  have HR0 := Lib.hid hR0
  clear h hR0
  obtain ⟨q, hq⟩ : ∃ q, dgL (l.drop k) = q := ⟨_, rfl⟩
  rw [hq]
  have HQ := Lib.hid hq
  clear hq
  obtain ⟨r, hr⟩ : ∃ r, l.drop k = r := ⟨_, rfl⟩
  rw [hr] at HL HR0 HQ
  clear hr
  go_enter Tryz.func164, Tryz.ntmps164
  go_wp2_with fail
  refine R.out.mono ?_
  rintro e w1 ⟨rfl, hb⟩
  have H1 := Lib.hid (HH.out.grow hb)
  have HR1 := Lib.hid (HR0.out.grow hb)
  have c1 := H1.out.c1
  have f1 := Joins.unfrozen_of_block H1.out.blk 1
  have HB := Lib.hid (hb.mono (Nat.le_of_lt hbs))
  obtain ⟨m, hm⟩ : ∃ m, l.length - k = m := ⟨_, rfl⟩
  rw [hm] at HL
  rw [hm]
  have hm1 : m ≤ 1000000000 := by omega
  have hm2 : m ≤ c - k := by omega
  have hm3 : k + m ≤ l.length := by omega
  clear hm hb HH R HR0
  go_wp2_with fail
  go_loop [4] (fun i => ∃ j : Nat, j ≤ m ∧ i = .int .i64 (j : Int) ∧ Hid ((r.take j).all isDig = true)) (fun i => m - (intOf i).toNat)
  case atStart => exact ⟨0, Nat.zero_le _, rfl, rfl⟩
  case round =>
    obtain ⟨j, hj, rfl, hD⟩ := hrel
    have stop : ∀ (_ : ∀ h : j < r.length, isDig r[j] = false), q = r.take j := fun hend => by
      rw [← HQ.out]; exact takeWhile_at r j (by rw [HL.out]; exact hj) hD.out hend
    have stop := Lib.hid stop
    have done : q = r.take j → Hid (q.length = j) ∧ Hid ((convert 22 9 (.slice (offA A c k) j (c - k))).run Tryz.prog (w1.setCell ⟨bs, 1, none⟩ (.int .i64 ((k : Int) + (j : Int)))) = .ok (.string ⟨q.toArray⟩) (w1.setCell ⟨bs, 1, none⟩ (.int .i64 ((k : Int) + (j : Int))))) ∧ Hid (Cur bs A c l ((k : Int) + (q.length : Int)) (w1.setCell ⟨bs, 1, none⟩ (.int .i64 ((k : Int) + (j : Int))))) ∧ Hid (Below bs w (w1.setCell ⟨bs, 1, none⟩ (.int .i64 ((k : Int) + (j : Int))))) := fun hqe => by
      have hql : q.length = j := by rw [hqe, List.length_take, HL.out]; omega
      have hcur := H1.out.set ((k : Int) + (j : Int))
      refine ⟨hql, ?_, ?_, HB.out.setCell (p := ⟨bs, 1, none⟩) (Nat.le_refl _) _⟩
      · have hT := (HR1.out.take (hi := j) (by rw [HL.out]; exact hj)).below ((Below.refl bs w1).setCell (p := ⟨bs, 1, none⟩) (Nat.le_refl _) (.int .i64 ((k : Int) + (j : Int))))
        rw [← hqe] at hT
        exact convS bs _ _ (c - k) j q hT hql
      · rw [hql]; exact hcur
    have done := Lib.hid done
    have hsl := fun W => slice_h (offA A c k) m (c - k) j (by omega) W
    by_cases hlt : j < m
    · have hlr : j < r.length := by rw [HL.out]; exact hlt
      obtain ⟨b, off, he, _, _, hc⟩ := HR1.out.cell hlr
      have hn : r[j].toNat ≤ 255 := by have := r[j].toNat_lt; omega
      by_cases h1 : 48 ≤ r[j].toNat
      · by_cases h2 : r[j].toNat ≤ 57
        · have HN := Lib.hid (dig_all_snoc r j hlr hD.out (by unfold isDig; simp [h1, h2]))
          have HE := Lib.hid he
          rw [he]
          clear he stop done
          generalize r[j].toNat = x at *
          go_wp2_with fail
          go_round
          case rel => exact ⟨j + 1, by omega, by go_num, HN.out⟩
          case measure => simp [intOf]; omega
        · have S := done.out (stop.out (fun _ => by unfold isDig; simp [h2]))
          obtain ⟨hq1, hcv, hcu, hbb⟩ := S
          have hcv := hcv.out
          have HE := Lib.hid he
          clear stop done
          rw [he] at hcv hsl
          rw [he]
          clear he
          generalize r[j].toNat = x at *
          go_wp2_with fail
          go_ret
          exact ⟨rfl, hcu, hbb.out⟩
      · have S := done.out (stop.out (fun _ => by unfold isDig; simp; omega))
        obtain ⟨hq1, hcv, hcu, hbb⟩ := S
        have hcv := hcv.out
        have HE := Lib.hid he
        clear stop done
        rw [he] at hcv hsl
        rw [he]
        clear he
        generalize r[j].toNat = x at *
        go_wp2_with fail
        go_ret
        exact ⟨rfl, hcu, hbb.out⟩
    · obtain rfl : j = m := by omega
      have S := done.out (stop.out (fun h => by rw [HL.out] at h; omega))
      obtain ⟨hq1, hcv, hcu, hbb⟩ := S
      have hcv := hcv.out
      clear stop done
      go_wp2_with fail
      go_ret
      exact ⟨rfl, hcu, hbb.out⟩
end Go.Proofs.YtpoejnajnaolpaaGreatDoor

namespace Go.Proofs.YtpoejnajnaolpaaGreatDoor
open Go.RowKit

/-- The beginning of a literal form: its number, how many bytes it takes up to its closing bracket. -/
def annO (r : List UInt8) : Option (Nat × Nat) :=
  if r[0]? = some 123 then
    match numOf (dgL (r.drop 1)) with
    | some n => if (r.drop 1)[(dgL (r.drop 1)).length]? = some 125 then some (n, (dgL (r.drop 1)).length + 2) else none
    | none => none
  else none
def APost (bs c : Nat) (A : Option Addr) (l : List UInt8) (k : Nat) (e : Ending) (w' : World) : Prop :=
  (∃ n j, annO (l.drop k) = some (n, j) ∧ n ≤ 4294967295 ∧ k + j ≤ l.length ∧ e = .returned (.tuple #[.int .u32 (n : Nat), .bool true]) ∧ Cur bs A c l ((k + j : Nat) : Int) w') ∨
  (annO (l.drop k) = none ∧ ∃ n : Nat, e = .returned (.tuple #[.int .u32 (n : Nat), .bool false]))

theorem mk_size (l : List UInt8) : (ByteArray.mk l.toArray).size = l.length := by show l.toArray.size = _; simp

set_option maxRecDepth 100000 in
theorem annF_no (bs c : Nat) (A : Option Addr) (l : List UInt8) (k : Nat) (hk : k ≤ l.length) (hm : l[k]? ≠ some 123) (hl : l.length ≤ 1000000000) (w : World) (h : Cur bs A c l (k : Int) w) :
    Calls Tryz.prog 148 #[.pointer (some ⟨bs, 0, none⟩)] w fun e w' => e = .returned (.tuple #[.int .u32 0, .bool false]) ∧ Below bs w w' := by
  have P := Lib.hid (pass_f bs c A l k hk 123 hm hl w h)
  clear h hm
  go_enter Tryz.func148, Tryz.ntmps148
  go_wp2_with fail
  refine P.out.mono ?_
  rintro e w1 ⟨rfl, _, hb1⟩
  go_wp2_with fail
  go_ret2
  exact ⟨rfl, hb1⟩

set_option maxRecDepth 100000 in
theorem annF_out (bs c : Nat) (A : Option Addr) (l : List UInt8) (x : Int) (h1 : -9223372036854775808 ≤ x) (h2 : x ≤ 9223372036854775807) (hx : x < 0 ∨ (l.length : Int) < x) (hl : l.length ≤ 1000000000) (w : World) (h : Cur bs A c l x w) :
    Calls Tryz.prog 148 #[.pointer (some ⟨bs, 0, none⟩)] w fun e w' => e = .returned (.tuple #[.int .u32 0, .bool false]) ∧ Below bs w w' := by
  have P := Lib.hid (pass_out bs c A l x h1 h2 hx 123 hl w h)
  clear h hx h1 h2
  go_enter Tryz.func148, Tryz.ntmps148
  go_wp2_with fail
  refine P.out.mono ?_
  rintro e w1 ⟨rfl, _, hb1⟩
  go_wp2_with fail
  go_ret2
  exact ⟨rfl, hb1⟩

theorem num_le {l : List UInt8} {u : Nat} (h : numOf l = some u) : u ≤ 4294967295 := (numOf_some h).1

set_option maxRecDepth 100000 in
set_option maxHeartbeats 1000000 in
theorem annF_mark (bs c : Nat) (A : Option Addr) (l : List UInt8) (k : Nat) (hm : l[k]? = some 123) (hl : l.length ≤ 1000000000) (w : World) (henv : ∀ w1, Below bs w w1 → Env w1) (h : Cur bs A c l (k : Int) w) :
    Calls Tryz.prog 148 #[.pointer (some ⟨bs, 0, none⟩)] w fun e w' => APost bs c A l k e w' ∧ Below bs w w' := by
  have hk : k < l.length := (List.getElem?_eq_some_iff.1 hm).1
  have P := Lib.hid (pass_t bs c A l k 123 hm hl w h)
  have DG := Lib.hid (fun w1 (hc : Cur bs A c l ((k + 1 : Nat) : Int) w1) => digits_any bs c A l (k + 1) (by omega) hl w1 hc)
  have hd := dgL_le (l.drop (k + 1))
  rw [List.length_drop] at hd
  have NM := Lib.hid (fun w1 (hb : Below bs w w1) => number_any ⟨(dgL (l.drop (k + 1))).toArray⟩ (by rw [mk_size]; omega) w1 (henv w1 hb))
  have HAO := Lib.hid (show annO (l.drop k) = match numOf (dgL (l.drop (k + 1))) with | some n => if l[k + 1 + (dgL (l.drop (k + 1))).length]? = some 125 then some (n, (dgL (l.drop (k + 1))).length + 2) else none | none => none by
    unfold annO
    rw [if_pos (by rw [drop_at]; exact hm), List.drop_drop, List.getElem?_drop])
  have PT := Lib.hid (fun p hp w1 hc => pass_t bs c A l p 125 hp hl w1 hc)
  have PF := Lib.hid (fun p hp hx w1 hc => pass_f bs c A l p hp 125 hx hl w1 hc)
  have hbs := h.lt
  clear h hm henv
  generalize dgL (l.drop (k + 1)) = D at *
  rw [show (ByteArray.mk D.toArray).data.toList = D from by simp] at NM
  cases ho : numOf D with
  | none =>
    rw [ho] at NM HAO
    rw [show ((none : Option Nat).getD 0 : Nat) = 0 from rfl, show (none : Option Nat).isSome = false from rfl] at NM
    clear ho PT PF
    go_enter Tryz.func148, Tryz.ntmps148
    go_wp2_with fail
    refine P.out.mono ?_
    rintro e w1 ⟨rfl, hc1, hb1⟩
    have DG := Lib.hid (DG.out w1 (hc1.out.cast (by omega)))
    clear P
    go_wp2_with fail
    refine DG.out.mono ?_
    rintro e w2 ⟨rfl, hc2, hb2⟩
    have hB2 := Lib.hid (hb1.trans hb2)
    clear DG hb1 hb2
    go_wp2_with fail
    refine (NM.out _ hB2.out).mono ?_
    rintro e w3 ⟨rfl, hb3⟩
    have hB3 := Lib.hid (hB2.out.trans (hb3.mono (Nat.le_of_lt hc2.out.lt)))
    clear hb3
    go_wp2_with fail
    go_ret2
    exact ⟨Or.inr ⟨HAO.out, 0, rfl⟩, hB3.out⟩
  | some n =>
    have hn := num_le ho
    rw [ho] at NM HAO
    rw [show ((some n).getD 0 : Nat) = n from rfl, show (some n).isSome = true from rfl] at NM
    clear ho
    by_cases h125 : l[k + 1 + D.length]? = some 125
    · have HAO := Lib.hid (HAO.out.trans (if_pos h125))
      have PT := Lib.hid (PT.out (k + 1 + D.length) h125)
      have hlt := (List.getElem?_eq_some_iff.1 h125).1
      clear h125 PF
      go_enter Tryz.func148, Tryz.ntmps148
      go_wp2_with fail
      refine P.out.mono ?_
      rintro e w1 ⟨rfl, hc1, hb1⟩
      have DG := Lib.hid (DG.out w1 (hc1.out.cast (by omega)))
      clear P
      go_wp2_with fail
      refine DG.out.mono ?_
      rintro e w2 ⟨rfl, hc2, hb2⟩
      have hB2 := Lib.hid (hb1.trans hb2)
      clear DG hb1 hb2
      go_wp2_with fail
      refine (NM.out _ hB2.out).mono ?_
      rintro e w3 ⟨rfl, hb3⟩
      have hB3 := Lib.hid (hB2.out.trans (hb3.mono (Nat.le_of_lt hc2.out.lt)))
      have PT := Lib.hid (PT.out w3 ((hc2.out.grow hb3).cast (by omega)))
      clear hb3
      go_wp2_with fail
      refine PT.out.mono ?_
      rintro e w4 ⟨rfl, hc4, hb4⟩
      have hB4 := Lib.hid (hB3.out.trans hb4)
      clear hb4
      go_wp2_with fail
      go_ret2
      exact ⟨Or.inl ⟨n, D.length + 2, HAO.out, hn, by omega, rfl, hc4.out.cast (by omega)⟩, hB4.out⟩
    · have HAO := Lib.hid (HAO.out.trans (if_neg h125))
      have PF := Lib.hid (PF.out (k + 1 + D.length) (by omega) h125)
      clear h125 PT
      go_enter Tryz.func148, Tryz.ntmps148
      go_wp2_with fail
      refine P.out.mono ?_
      rintro e w1 ⟨rfl, hc1, hb1⟩
      have DG := Lib.hid (DG.out w1 (hc1.out.cast (by omega)))
      clear P
      go_wp2_with fail
      refine DG.out.mono ?_
      rintro e w2 ⟨rfl, hc2, hb2⟩
      have hB2 := Lib.hid (hb1.trans hb2)
      clear DG hb1 hb2
      go_wp2_with fail
      refine (NM.out _ hB2.out).mono ?_
      rintro e w3 ⟨rfl, hb3⟩
      have hB3 := Lib.hid (hB2.out.trans (hb3.mono (Nat.le_of_lt hc2.out.lt)))
      have PF := Lib.hid (PF.out w3 ((hc2.out.grow hb3).cast (by omega)))
      clear hb3
      go_wp2_with fail
      refine PF.out.mono ?_
      rintro e w4 ⟨rfl, hc4, hb4⟩
      have hB4 := Lib.hid (hB3.out.trans hb4)
      clear hb4
      go_wp2_with fail
      go_ret2
      exact ⟨Or.inr ⟨HAO.out, n, rfl⟩, hB4.out⟩

/-- Whatever place. -/
def annX (l : List UInt8) (x : Int) : Option (Nat × Nat) := if 0 ≤ x then annO (l.drop x.toNat) else none
def AXPost (bs c : Nat) (A : Option Addr) (l : List UInt8) (x : Int) (e : Ending) (w' : World) : Prop :=
  (∃ (n j k : Nat), x = k ∧ annX l x = some (n, j) ∧ n ≤ 4294967295 ∧ k + j ≤ l.length ∧ e = .returned (.tuple #[.int .u32 (n : Nat), .bool true]) ∧ Cur bs A c l ((k + j : Nat) : Int) w') ∨
  (annX l x = none ∧ ∃ n : Nat, e = .returned (.tuple #[.int .u32 (n : Nat), .bool false]))
theorem annO_no {l : List UInt8} {k : Nat} (h : l[k]? ≠ some 123) : annO (l.drop k) = none := by
  unfold annO
  rw [if_neg (by rw [drop_at]; exact h)]
theorem annF_any (bs c : Nat) (A : Option Addr) (l : List UInt8) (x : Int) (h1 : -9223372036854775808 ≤ x) (h2 : x ≤ 9223372036854775807) (hl : l.length ≤ 1000000000) (w : World) (henv : ∀ w1, Below bs w w1 → Env w1) (h : Cur bs A c l x w) :
    Calls Tryz.prog 148 #[.pointer (some ⟨bs, 0, none⟩)] w fun e w' => AXPost bs c A l x e w' ∧ Below bs w w' := by
  by_cases hin : 0 ≤ x ∧ x ≤ l.length
  · obtain ⟨k, rfl⟩ : ∃ k : Nat, x = k := ⟨x.toNat, by omega⟩
    have e0 : annX l (k : Int) = annO (l.drop k) := by unfold annX; rw [if_pos (by omega)]; rfl
    by_cases hm : l[k]? = some 123
    · refine (annF_mark bs c A l k hm hl w henv h).mono fun e w' ⟨ha, hb⟩ => ⟨?_, hb⟩
      unfold AXPost
      rw [e0]
      rcases ha with ⟨n, j, a1, a2, a3, a4, a5⟩ | ⟨a1, n, a2⟩
      · exact Or.inl ⟨n, j, k, rfl, a1, a2, a3, a4, a5⟩
      · exact Or.inr ⟨a1, n, a2⟩
    · refine (annF_no bs c A l k (by omega) hm hl w h).mono fun e w' ⟨ha, hb⟩ => ⟨Or.inr ⟨?_, 0, ha⟩, hb⟩
      rw [e0]; exact annO_no hm
  · have hx : x < 0 ∨ (l.length : Int) < x := by omega
    refine (annF_out bs c A l x h1 h2 hx hl w h).mono fun e w' ⟨ha, hb⟩ => ⟨Or.inr ⟨?_, 0, ha⟩, hb⟩
    unfold annX
    by_cases h0 : 0 ≤ x
    · rw [if_pos h0]
      exact annO_no (by rw [List.getElem?_eq_none (by omega)]; simp)
    · rw [if_neg h0]
end Go.Proofs.YtpoejnajnaolpaaGreatDoor

namespace Go.Proofs.YtpoejnajnaolpaaGreatDoor
open Go.RowKit
open Go.Lib hiding intOf

/-- The line ends with the head of a literal form of n bytes. -/
def AnnL (l : List UInt8) (n : Nat) : Prop := n ≤ 4294967295 ∧ ∃ pre, l = pre ++ 123 :: (decDigits n ++ [125])
/-- o is what the line announces. -/
def IsAnn (l : List UInt8) : Option Nat → Prop
  | some n => AnnL l n
  | none => ∀ n, ¬ AnnL l n

theorem dec_dig (n : Nat) : ∀ c ∈ decDigits n, isDig c = true := fun c hc => List.all_eq_true.1 (dec_facts n).1 c hc
theorem takeWhile_front (a : List UInt8) (x : UInt8) (b : List UInt8) (ha : ∀ c ∈ a, isDig c = true) (hx : isDig x = false) : (a ++ x :: b).takeWhile isDig = a := by
  induction a with
  | nil => simp [hx]
  | cons c a ih => rw [List.cons_append, List.takeWhile_cons, if_pos (ha c (by simp)), ih (fun d hd => ha d (by simp [hd]))]
theorem annL_inj {l : List UInt8} {n m : Nat} (h1 : AnnL l n) (h2 : AnnL l m) : n = m := by
  obtain ⟨hn, p1, e1⟩ := h1
  obtain ⟨hm, p2, e2⟩ := h2
  have e : (p1 ++ 123 :: (decDigits n ++ [125])).reverse = (p2 ++ 123 :: (decDigits m ++ [125])).reverse := by rw [← e1, ← e2]
  simp only [List.reverse_append, List.reverse_cons, List.reverse_nil, List.nil_append, List.append_assoc, List.cons_append] at e
  injection e with _ e
  have t := congrArg (List.takeWhile isDig) e
  rw [takeWhile_front _ _ _ (fun c hc => dec_dig n c (List.mem_reverse.1 hc)) (by decide), takeWhile_front _ _ _ (fun c hc => dec_dig m c (List.mem_reverse.1 hc)) (by decide)] at t
  have t2 := congrArg List.reverse t
  rw [List.reverse_reverse, List.reverse_reverse] at t2
  have a := numOf_dec hn
  rw [t2, numOf_dec hm] at a
  exact (Option.some.inj a).symm
theorem isAnn_eq {l : List UInt8} {a b : Option Nat} (h1 : IsAnn l a) (h2 : IsAnn l b) : a = b := by
  cases a with
  | none =>
    cases b with
    | none => rfl
    | some m => exact absurd h2 (h1 m)
  | some n =>
    cases b with
    | none => exact absurd h1 (h2 n)
    | some m => rw [annL_inj h1 h2]
theorem isAnn_le {l : List UInt8} {n : Nat} (h : IsAnn l (some n)) : n ≤ 4294967295 := h.1

/-- The last place of an opening bracket. -/
def LastP (l : List UInt8) (x : Int) : Prop := (x = -1 ∧ ∀ j : Nat, l[j]? ≠ some 123) ∨ ∃ k : Nat, x = k ∧ l[k]? = some 123 ∧ ∀ j : Nat, k < j → l[j]? ≠ some 123

/-- The form at the last opening bracket. -/
theorem ann_at {l : List UInt8} {n : Nat} (h : AnnL l n) {x : Int} (hx : LastP l x) : ∃ k : Nat, x = k ∧ annO (l.drop k) = some (n, (decDigits n).length + 2) ∧ k + ((decDigits n).length + 2) = l.length := by
  obtain ⟨hn, pre, rfl⟩ := h
  have h123 : (pre ++ 123 :: (decDigits n ++ [125]))[pre.length]? = some 123 := by simp
  have hno : ∀ j, pre.length < j → (pre ++ 123 :: (decDigits n ++ [125]))[j]? ≠ some 123 := fun j hj => by
    rw [List.getElem?_append_right (by omega)]
    obtain ⟨i, hi⟩ : ∃ i, j - pre.length = i + 1 := ⟨j - pre.length - 1, by omega⟩
    rw [hi, List.getElem?_cons_succ]
    intro e
    have hm : (123 : UInt8) ∈ decDigits n ++ [125] := List.mem_of_getElem? e
    rw [List.mem_append] at hm
    rcases hm with hm | hm
    · have := dec_dig n _ hm
      revert this; decide
    · simp at hm
  have hk : x = pre.length := by
    rcases hx with ⟨_, h0⟩ | ⟨k, rfl, h1, h2⟩
    · exact absurd h123 (h0 _)
    · rcases Nat.lt_trichotomy k pre.length with hlt | heq | hgt
      · exact absurd h123 (h2 _ hlt)
      · rw [heq]
      · exact absurd h1 (hno _ hgt)
  refine ⟨pre.length, hk, ?_, by simp⟩
  rw [List.drop_left]
  unfold annO
  rw [if_pos (by simp)]
  have e1 : (123 :: (decDigits n ++ [125]) : List UInt8).drop 1 = decDigits n ++ 125 :: [] := rfl
  have e2 : dgL (decDigits n ++ 125 :: []) = decDigits n := takeWhile_front _ _ _ (dec_dig n) (by decide)
  rw [e1, e2, numOf_dec hn]
  simp
theorem ann_of {l : List UInt8} {k n j : Nat} (h : annO (l.drop k) = some (n, j)) (hj : k + j = l.length) : AnnL l n := by
  unfold annO at h
  split at h
  · rename_i h0
    split at h
    · rename_i m hm
      split at h
      · rename_i h125
        simp only [Option.some.injEq, Prod.mk.injEq] at h
        obtain ⟨rfl, rfl⟩ := h
        obtain ⟨hle, hd⟩ := numOf_some hm
        refine ⟨hle, l.take k, ?_⟩
        rw [hd]
        have hk : k < l.length := by omega
        have e0 : l.drop k = 123 :: l.drop (k + 1) := by
          rw [drop_at] at h0
          obtain ⟨_, he⟩ := List.getElem?_eq_some_iff.1 h0
          rw [List.drop_eq_getElem_cons hk, he]
        have e1 : (l.drop k).drop 1 = l.drop (k + 1) := by rw [List.drop_drop]
        rw [e1] at hm h125 hj hd ⊢
        have hpre : dgL (l.drop (k + 1)) <+: l.drop (k + 1) := List.takeWhile_prefix _
        obtain ⟨t, ht⟩ := hpre
        generalize dgL (l.drop (k + 1)) = D at *
        have htl : t.length = 1 := by
          have := congrArg List.length ht
          rw [List.length_append, List.length_drop] at this
          omega
        obtain ⟨y, rfl⟩ : ∃ y, t = [y] := by
          match t, htl with
          | [y], _ => exact ⟨y, rfl⟩
        have hy : y = 125 := by
          rw [← ht] at h125
          simpa using h125
        subst hy
        rw [ht]
        conv => lhs; rw [← List.take_append_drop k l, e0]
      · cases h
    · cases h
  · cases h
theorem ann_last {l : List UInt8} {m n : Nat} (h : AnnL l n) (hlen : l.length = m + 1) : l[m]? = some 125 := by
  obtain ⟨_, pre, rfl⟩ := h
  have e : pre ++ 123 :: (decDigits n ++ [125]) = (pre ++ 123 :: decDigits n) ++ [125] := by simp
  rw [e] at hlen ⊢
  rw [List.length_append, List.length_singleton] at hlen
  rw [List.getElem?_append_right (by omega), show m - (pre ++ 123 :: decDigits n).length = 0 by omega]
  rfl
end Go.Proofs.YtpoejnajnaolpaaGreatDoor

namespace Go.Proofs.YtpoejnajnaolpaaGreatDoor
open Go.RowKit

/-- A literal form at the front: its bytes, how many bytes it takes. -/
def litO (r : List UInt8) : Option (List UInt8 × Nat) :=
  match annO r with
  | some (n, j) => if n ≤ 65536 ∧ r[j]? = some 13 ∧ r[j + 1]? = some 10 ∧ j + 2 + n ≤ r.length then some ((r.drop (j + 2)).take n, j + 2 + n) else none
  | none => none
/-- What ScanLiteral reads. -/
def scanL (l : List UInt8) (x : Int) : Option (List UInt8 × Nat) := if 0 ≤ x then (litO (l.drop x.toNat)).map (fun t => (t.1, x.toNat + t.2)) else none

theorem scanL_none {l : List UInt8} {x : Int} (h : annX l x = none) : scanL l x = none := by
  unfold annX at h
  unfold scanL litO
  by_cases h0 : 0 ≤ x
  · rw [if_pos h0] at h ⊢
    rw [h]
    rfl
  · rw [if_neg h0]
theorem scanL_some {l : List UInt8} {k n j : Nat} (h : annX l (k : Int) = some (n, j)) : scanL l (k : Int) = if n ≤ 65536 ∧ l[k + j]? = some 13 ∧ l[k + j + 1]? = some 10 ∧ k + j + 2 + n ≤ l.length then some ((l.drop (k + j + 2)).take n, k + j + 2 + n) else none := by
  unfold annX at h
  rw [if_pos (by omega)] at h
  unfold scanL litO
  rw [if_pos (by omega)]
  have e : ((k : Int)).toNat = k := rfl
  rw [e] at h ⊢
  rw [h]
  simp only [List.getElem?_drop, List.length_drop, List.drop_drop]
  have hj : j + 2 ≤ (l.drop k).length ∨ True := Or.inr trivial
  clear hj
  by_cases hc : n ≤ 65536 ∧ l[k + j]? = some 13 ∧ l[k + j + 1]? = some 10 ∧ k + j + 2 + n ≤ l.length
  · rw [if_pos hc, if_pos ⟨hc.1, hc.2.1, by rw [← Nat.add_assoc]; exact hc.2.2.1, by have := hc.2.2.2; omega⟩]
    simp only [Option.map_some, Option.some.injEq, Prod.mk.injEq]
    exact ⟨by rw [← Nat.add_assoc], by omega⟩
  · rw [if_neg hc, if_neg (fun hd => hc ⟨hd.1, hd.2.1, by rw [Nat.add_assoc]; exact hd.2.2.1, by
      have h1 := hd.2.2.2
      have h2 := (List.getElem?_eq_some_iff.1 hd.2.2.1).1
      omega⟩)]
    rfl

/-- What a scan answers. -/
def SPost (o : Option (List UInt8 × Nat)) (base : Nat) (e : Ending) (w' : World) : Prop :=
  (∃ (P : List UInt8) (m : Nat) (g c' : Nat), o = some (P, m) ∧ e = .returned (.tuple #[.slice (some ⟨g, 0, none⟩) P.length c', .int .i64 (m : Int), .bool true]) ∧ w'.ownsRow base 5 1 (.slice (some ⟨g, 0, none⟩) P.length c') P.length (flatL encB P)) ∨
  (o = none ∧ e = .returned (.tuple #[.slice none 0 0, .int .i64 0, .bool false]))

/-- What a function that scans answers, its bytes read. -/
def RPost (o : Option (List UInt8 × Nat)) (e : Ending) (w' : World) : Prop :=
  (∃ (P : List UInt8) (m : Nat) (A' : Option Addr) (c' : Nat), o = some (P, m) ∧ e = .returned (.tuple #[.slice A' P.length c', .int .i64 (m : Int), .bool true]) ∧ ByAt w'.heap.size w' A' c' P) ∨
  (o = none ∧ e = .returned (.tuple #[.slice none 0 0, .int .i64 0, .bool false]))
theorem ne_byte {x : UInt8} (y : UInt8) (h : x ≠ y) : ((x.toNat : Int) == (y.toNat : Int)) = false ∧ ((x.toNat : Int) != (y.toNat : Int)) = true := by
  have e : ((x.toNat : Int) == (y.toNat : Int)) = false := by
    rw [beq_eq_false_iff_ne]
    intro e
    exact h (UInt8.toNat_inj.1 (by omega))
  exact ⟨e, by rw [bne, e]; rfl⟩
theorem at_byte {B c p : Nat} {w : World} {A : Option Addr} {l : List UInt8} (h : ByAt B w A c l) {x : UInt8} (hx : l[p]? = some x) : ∃ b off, A = some ⟨b, off, none⟩ ∧ b < w.heap.size ∧ w.cell? ⟨b, off + p, none⟩ = some (.int .u8 (x.toNat : Int)) := by
  obtain ⟨hlt, rfl⟩ := List.getElem?_eq_some_iff.1 hx
  obtain ⟨b, off, hA, _, hw, hc⟩ := h.cell hlt
  exact ⟨b, off, hA, hw, hc⟩
end Go.Proofs.YtpoejnajnaolpaaGreatDoor

namespace Go.Proofs.YtpoejnajnaolpaaGreatDoor
open Go.RowKit
open Go.Lib hiding intOf

theorem annO_lit (n : Nat) (hn : n ≤ 4294967295) (r : List UInt8) : annO (123 :: (decDigits n ++ 125 :: r)) = some (n, (decDigits n).length + 2) := by
  unfold annO
  rw [if_pos (by simp)]
  have e1 : (123 :: (decDigits n ++ 125 :: r) : List UInt8).drop 1 = decDigits n ++ 125 :: r := rfl
  have e2 : dgL (decDigits n ++ 125 :: r) = decDigits n := takeWhile_front _ _ _ (dec_dig n) (by decide)
  rw [e1, e2, numOf_dec hn]
  simp
theorem scanL_inv (pre b post : List UInt8) (h : b.length ≤ 65536) : scanL (pre ++ literalL b ++ post) (pre.length : Int) = some (b, pre.length + (literalL b).length) := by
  obtain ⟨D, hD⟩ : ∃ D, decDigits b.length = D := ⟨_, rfl⟩
  have e : pre ++ literalL b ++ post = pre ++ 123 :: (D ++ 125 :: (13 :: 10 :: (b ++ post))) := by
    unfold literalL headL
    rw [hD]
    simp
  have ha : annX (pre ++ literalL b ++ post) (pre.length : Int) = some (b.length, D.length + 2) := by
    unfold annX
    rw [if_pos (by omega)]
    show annO ((pre ++ literalL b ++ post).drop pre.length) = _
    rw [e, List.drop_left, ← hD]
    exact annO_lit b.length (by omega) _
  rw [scanL_some ha]
  have e2 : pre ++ literalL b ++ post = (pre ++ 123 :: (D ++ [125])) ++ 13 :: 10 :: (b ++ post) := by rw [e]; simp
  have el : (pre ++ 123 :: (D ++ [125])).length = pre.length + (D.length + 2) := by simp
  have h13 : (pre ++ literalL b ++ post)[pre.length + (D.length + 2)]? = some 13 := by rw [e2, ← el]; simp
  have h10 : (pre ++ literalL b ++ post)[pre.length + (D.length + 2) + 1]? = some 10 := by
    rw [e2, ← el, List.getElem?_append_right (by omega), Nat.add_sub_cancel_left]
    rfl
  have hlen : (pre ++ literalL b ++ post).length = pre.length + (D.length + 2) + 2 + b.length + post.length := by rw [e2, List.length_append, el]; simp; omega
  rw [if_pos ⟨h, h13, h10, by rw [hlen]; omega⟩]
  have hdr : (pre ++ literalL b ++ post).drop (pre.length + (D.length + 2) + 2) = b ++ post := by
    rw [e2, ← el, ← List.drop_drop, List.drop_left]
    rfl
  rw [hdr, List.take_left']
  · congr 2
    unfold literalL headL
    rw [hD]
    simp
    omega
  · rfl
end Go.Proofs.YtpoejnajnaolpaaGreatDoor

namespace Go.Proofs.YtpoejnajnaolpaaGreatDoor
open Go.RowKit

set_option maxRecDepth 100000 in
set_option maxHeartbeats 1000000 in
theorem take_t (bs c : Nat) (A : Option Addr) (l : List UInt8) (k n : Nat) (hn : k + n ≤ l.length) (hl : l.length ≤ 1000000000) (w : World) (h : Cur bs A c l (k : Int) w) :
    Calls Tryz.prog 150 #[.pointer (some ⟨bs, 0, none⟩), .int .i64 (n : Int)] w fun e w' => e = .returned (.tuple #[.slice (offA A c k) n (c - k), .bool true]) ∧ Hid (Cur bs A c l ((k : Int) + (n : Int)) w') ∧ Below bs w w' := by
  have R := Lib.hid (rest_in bs c A l k (by omega) hl w h)
  have hle := h.lies.le
  have HH := Lib.hid h
  have hbs := h.lt
  have hsl := fun W => slice_h (offA A c k) (l.length - k) (c - k) n (by omega) W
  have hse := fun x lo hi mx W => sliceAt_eq x lo hi mx W
  have e1 : decide (l.length - k < n) = false := by simp; omega
  clear h
  go_enter Tryz.func150, Tryz.ntmps150
  go_wp2_with fail
  refine R.out.mono ?_
  rintro e w1 ⟨rfl, hb⟩
  have H1 := Lib.hid (HH.out.grow hb)
  have c1 := H1.out.c1
  have f1 := Joins.unfrozen_of_block H1.out.blk 1
  have HS := Lib.hid (H1.out.set ((k : Int) + (n : Int)))
  have HB := Lib.hid ((hb.mono (Nat.le_of_lt hbs)).setCell (p := ⟨bs, 1, none⟩) (Nat.le_refl _) (.int .i64 ((k : Int) + (n : Int))))
  clear R HH hb H1
  go_wp2_with fail
  go_ret2
  exact ⟨rfl, HS.out, HB.out⟩

set_option maxRecDepth 100000 in
set_option maxHeartbeats 1000000 in
theorem take_f (bs c : Nat) (A : Option Addr) (l : List UInt8) (k n : Nat) (hk : k ≤ l.length) (hn : l.length < k + n) (hl : l.length ≤ 1000000000) (w : World) (h : Cur bs A c l (k : Int) w) :
    Calls Tryz.prog 150 #[.pointer (some ⟨bs, 0, none⟩), .int .i64 (n : Int)] w fun e w' => e = .returned (.tuple #[.slice none 0 0, .bool false]) ∧ Hid (Cur bs A c l (k : Int) w') ∧ Below bs w w' := by
  have R := Lib.hid (rest_in bs c A l k hk hl w h)
  have HH := Lib.hid h
  have hbs := h.lt
  have e1 : decide (l.length - k < n) = true := by simp; omega
  clear h
  go_enter Tryz.func150, Tryz.ntmps150
  go_wp2_with fail
  refine R.out.mono ?_
  rintro e w1 ⟨rfl, hb⟩
  have H1 := Lib.hid (HH.out.grow hb)
  clear R HH
  go_wp2_with fail
  go_ret2
  exact ⟨rfl, H1.out, hb.mono (Nat.le_of_lt hbs)⟩
end Go.Proofs.YtpoejnajnaolpaaGreatDoor

namespace Go.Proofs.YtpoejnajnaolpaaGreatDoor
open Go.RowKit

/-- What literal answers. -/
def LPost (bs c : Nat) (A : Option Addr) (l : List UInt8) (x : Int) (e : Ending) (w' : World) : Prop :=
  (∃ q n : Nat, q + n ≤ l.length ∧ scanL l x = some ((l.drop q).take n, q + n) ∧ e = .returned (.tuple #[.slice (offA A c q) n (c - q), .bool true]) ∧ Cur bs A c l ((q + n : Nat) : Int) w') ∨
  (scanL l x = none ∧ e = .returned (.tuple #[.slice none 0 0, .bool false]))

set_option maxRecDepth 100000 in
set_option maxHeartbeats 2000000 in
theorem literalF_any (bs c : Nat) (A : Option Addr) (l : List UInt8) (x : Int) (h1 : -9223372036854775808 ≤ x) (h2 : x ≤ 9223372036854775807) (hl : l.length ≤ 1000000000) (w : World) (henv : ∀ w1, Below bs w w1 → Env w1) (h : Cur bs A c l x w) :
    Calls Tryz.prog 132 #[.pointer (some ⟨bs, 0, none⟩)] w fun e w' => LPost bs c A l x e w' ∧ Below bs w w' := by
  have AN := Lib.hid (annF_any bs c A l x h1 h2 hl w henv h)
  have PT13 := Lib.hid (fun p hp w1 hc => pass_t bs c A l p 13 hp hl w1 hc)
  have PF13 := Lib.hid (fun p hp hx w1 hc => pass_f bs c A l p hp 13 hx hl w1 hc)
  have PT10 := Lib.hid (fun p hp w1 hc => pass_t bs c A l p 10 hp hl w1 hc)
  have PF10 := Lib.hid (fun p hp hx w1 hc => pass_f bs c A l p hp 10 hx hl w1 hc)
  have TT := Lib.hid (fun p n hn w1 hc => take_t bs c A l p n hn hl w1 hc)
  have TF := Lib.hid (fun p n hp hn w1 hc => take_f bs c A l p n hp hn hl w1 hc)
  clear h henv
  go_enter Tryz.func132, Tryz.ntmps132
  go_wp2_with fail
  refine AN.out.mono ?_
  rintro e w1 ⟨ha, hb⟩
  unfold AXPost at ha
  rcases ha with ⟨n, j, k, rfl, ha, hn, hkj, rfl, hc⟩ | ⟨ha, n, rfl⟩
  · have HS := Lib.hid (scanL_some ha)
    have HC := Lib.hid hc
    have HB := Lib.hid hb
    clear ha AN hc hb
    obtain ⟨q, hq⟩ : ∃ q, k + j = q := ⟨_, rfl⟩
    rw [hq] at HS HC hkj
    clear hq
    by_cases hbig : n ≤ 65536
    · have e1 : decide (65536 < (n : Int)) = false := by simp; omega
      by_cases h13 : l[q]? = some 13
      · have hq1 := (List.getElem?_eq_some_iff.1 h13).1
        have P1 := Lib.hid (PT13.out q h13 w1 HC.out)
        by_cases h10 : l[q + 1]? = some 10
        · have hq2 := (List.getElem?_eq_some_iff.1 h10).1
          have P2 := Lib.hid (PT10.out (q + 1) h10)
          by_cases hfit : q + 2 + n ≤ l.length
          · have HR := Lib.hid (HS.out.trans (if_pos ⟨hbig, h13, h10, hfit⟩))
            have T := Lib.hid (TT.out (q + 2) n hfit)
            clear h13 h10 PT13 PF13 PT10 PF10 TT TF HS
            go_wp2_with fail
            refine P1.out.mono ?_
            rintro e w2 ⟨rfl, hc2, hb2⟩
            have P2 := Lib.hid (P2.out w2 (hc2.out.cast (by omega)))
            have HB2 := Lib.hid (HB.out.trans hb2)
            clear hb2 P1
            go_wp2_with fail
            refine P2.out.mono ?_
            rintro e w3 ⟨rfl, hc3, hb3⟩
            have T := Lib.hid (T.out w3 (hc3.out.cast (by omega)))
            have HB3 := Lib.hid (HB2.out.trans hb3)
            clear hb3 P2
            go_wp2_with fail
            refine T.out.mono ?_
            rintro e w4 ⟨rfl, hc4, hb4⟩
            have HB4 := Lib.hid (HB3.out.trans hb4)
            clear hb4 T
            go_wp2_with fail
            go_ret2
            exact ⟨Or.inl ⟨q + 2, n, hfit, HR.out, rfl, hc4.out.cast (by omega)⟩, HB4.out⟩
          · have HR := Lib.hid (HS.out.trans (if_neg (fun hh => hfit hh.2.2.2)))
            have T := Lib.hid (TF.out (q + 2) n (by omega) (by omega))
            clear h13 h10 PT13 PF13 PT10 PF10 TT TF HS
            go_wp2_with fail
            refine P1.out.mono ?_
            rintro e w2 ⟨rfl, hc2, hb2⟩
            have P2 := Lib.hid (P2.out w2 (hc2.out.cast (by omega)))
            have HB2 := Lib.hid (HB.out.trans hb2)
            clear hb2 P1
            go_wp2_with fail
            refine P2.out.mono ?_
            rintro e w3 ⟨rfl, hc3, hb3⟩
            have T := Lib.hid (T.out w3 (hc3.out.cast (by omega)))
            have HB3 := Lib.hid (HB2.out.trans hb3)
            clear hb3 P2
            go_wp2_with fail
            refine T.out.mono ?_
            rintro e w4 ⟨rfl, hc4, hb4⟩
            have HB4 := Lib.hid (HB3.out.trans hb4)
            clear hb4 T
            go_wp2_with fail
            go_ret2
            exact ⟨Or.inr ⟨HR.out, rfl⟩, HB4.out⟩
        · have HR := Lib.hid (HS.out.trans (if_neg (fun hh => h10 hh.2.2.1)))
          have P2 := Lib.hid (PF10.out (q + 1) (by omega) h10)
          clear h13 h10 PT13 PF13 PT10 PF10 TT TF HS
          go_wp2_with fail
          refine P1.out.mono ?_
          rintro e w2 ⟨rfl, hc2, hb2⟩
          have P2 := Lib.hid (P2.out w2 (hc2.out.cast (by omega)))
          have HB2 := Lib.hid (HB.out.trans hb2)
          clear hb2 P1
          go_wp2_with fail
          refine P2.out.mono ?_
          rintro e w3 ⟨rfl, hc3, hb3⟩
          have HB3 := Lib.hid (HB2.out.trans hb3)
          clear hb3 P2
          go_wp2_with fail
          go_ret2
          exact ⟨Or.inr ⟨HR.out, rfl⟩, HB3.out⟩
      · have HR := Lib.hid (HS.out.trans (if_neg (fun hh => h13 hh.2.1)))
        have P1 := Lib.hid (PF13.out q (by omega) h13 w1 HC.out)
        clear h13 PT13 PF13 PT10 PF10 TT TF HS
        go_wp2_with fail
        refine P1.out.mono ?_
        rintro e w2 ⟨rfl, hc2, hb2⟩
        have HB2 := Lib.hid (HB.out.trans hb2)
        clear hb2 P1
        go_wp2_with fail
        go_ret2
        exact ⟨Or.inr ⟨HR.out, rfl⟩, HB2.out⟩
    · have HR := Lib.hid (HS.out.trans (if_neg (fun hh => hbig hh.1)))
      have e1 : decide (65536 < (n : Int)) = true := by simp; omega
      clear hbig PT13 PF13 PT10 PF10 TT TF HS
      go_wp2_with fail
      go_ret2
      exact ⟨Or.inr ⟨HR.out, rfl⟩, HB.out⟩
  · have HR := Lib.hid (scanL_none ha)
    clear ha
    go_wp2_with fail
    go_ret2
    exact ⟨Or.inr ⟨HR.out, rfl⟩, hb⟩
end Go.Proofs.YtpoejnajnaolpaaGreatDoor

namespace Go.Proofs.YtpoejnajnaolpaaGreatDoor
open Go.RowKit

theorem Col.base {B B' g bu ba size : Nat} {l : List UInt8} {w : World} (h : Col B g bu ba size l w) (hB : B' ≤ B) : Col B' g bu ba size l w :=
  ⟨Nat.le_trans hB h.bg, Nat.le_trans hB h.bbu, Nat.le_trans hB h.bba, h.gu, h.ga, h.ua, h.row, h.used, h.all⟩

set_option maxRecDepth 100000 in
set_option maxHeartbeats 4000000 in
theorem scanLiteral_any (B c : Nat) (A : Option Addr) (l : List UInt8) (x : Int) (h1 : -9223372036854775808 ≤ x) (h2 : x ≤ 9223372036854775807) (hl : l.length ≤ 1000000) (w : World) (henv : Env w) (hA : ByAt B w A c l) :
    Calls Tryz.prog 119 #[.slice A l.length c, .int .i64 x] w fun e w' => SPost (scanL l x) w.heap.size e w' ∧ Below w.heap.size w w' := by
  have L := Lib.hid (literalF_any w.heap.size c A l x h1 h2 (by omega) _ (fun w1 hb => henv.below ((below_al w (.cells #[.slice A l.length c, .int .i64 x] 144)).trans hb)) (cur_new hA x))
  have HA := Lib.hid hA.here
  clear hA henv h1 h2
  obtain ⟨o, ho⟩ : ∃ o, scanL l x = o := ⟨_, rfl⟩
  rw [ho]
  have HO := Lib.hid ho
  clear ho
  go_enter Tryz.func119, Tryz.ntmps119
  go_wp2_with fail
  refine L.out.mono ?_
  rintro e w1 ⟨hq, hb⟩
  have hB := (below_al w (.cells #[.slice A l.length c, .int .i64 x] 144)).trans hb
  unfold LPost at hq
  rcases hq with ⟨q, n, hqn, hs, rfl, hc⟩ | ⟨hn, rfl⟩
  · have e1 : ((l.take (q + n)).drop q) = (l.drop q).take n := by rw [List.drop_take]; congr 1; omega
    have hBy := (HA.out.below hB).cut (lo := q) (hi := q + n) (by omega) (by omega)
    rw [e1] at hBy
    have hlen : ((l.drop q).take n).length = n := by rw [List.length_take, List.length_drop]; omega
    have HR := Lib.hid (show o = some ((l.drop q).take n, q + n) by rw [← HO.out, hs])
    have hnl : n ≤ 1000000 := by omega
    have c1 := hc.c1
    have hsz := hc.lt
    have HB := Lib.hid hB
    have hbz := hB.size
    obtain ⟨P, hP⟩ : ∃ P, (l.drop q).take n = P := ⟨_, rfl⟩
    rw [hP] at hBy hlen HR
    generalize q + n = m at *
    have CO : ∀ W, Below w1.heap.size w1 W → Calls Tryz.prog 113 #[.int .i64 (n : Int)] W fun e w' =>
      ∃ g bu ba, e = .returned (.func (Fn.func 122) #[] #[.pointer (some ⟨bu, 0, none⟩), .pointer (some ⟨ba, 0, none⟩)]) ∧ Hid (Col w1.heap.size g bu ba n [] w') ∧ Below w1.heap.size w1 w' := fun W hW => by
      refine (collector_any n (by omega) W).mono ?_
      rintro e w' ⟨g, bu, ba, a1, a2, a3⟩
      exact ⟨g, bu, ba, a1, a2.base hW.size, below_next hW a3⟩
    have PU : ∀ g bu ba W, Hid (Col w1.heap.size g bu ba n [] W) → Below w1.heap.size w1 W → Calls Tryz.prog 122 #[.slice (offA A c q) n (c - q), .pointer (some ⟨bu, 0, none⟩), .pointer (some ⟨ba, 0, none⟩)] W fun e w' =>
      e = .returned (.slice (some ⟨g, 0, none⟩) n n) ∧ Hid (w'.ownsRow w.heap.size 5 1 (.slice (some ⟨g, 0, none⟩) n n) n (flatL encB P)) ∧ Below w1.heap.size w1 w' := fun g bu ba W hC hW => by
      refine (put_at w1.heap.size g bu ba n [] P _ (offA A c q) (c - q) n n hlen (by simp) (by omega) (by omega) W hC.out (hBy.grow hW)).mono ?_
      rintro e w' ⟨a1, a2, a3⟩
      refine ⟨a1, ?_, hW.trans a3⟩
      have := a2.out.own (by omega)
      rw [List.nil_append, hlen] at this
      exact Joins.ownsRow_le this hbz
    have CO := Lib.hid CO
    have PU := Lib.hid PU
    have HL := Lib.hid hlen
    clear hBy hs hc hb hB L HA HO e1 hlen hP hbz
    go_wp2_with fail
    go_region_with (first
      | (go_at_call 113; refine (CO.out _ (by repeat (first | assumption | exact Below.refl _ _ | refine Below.drew ?_ ))).mono ?_; rintro e w3 ⟨g, bu, ba, rfl, hC3, hb3⟩; have c3 : w3.cell? ⟨w.heap.size, 1, none⟩ = some (.int .i64 (m : Int)) := (hb3.cell (p := ⟨w.heap.size, 1, none⟩) hsz).trans c1)
      | (go_at_call 122; refine (PU.out g bu ba _ (by first | exact hC3) (by repeat (first | assumption | exact Below.refl _ _ | refine Below.drew ?_ ))).mono ?_; rintro e w4 ⟨rfl, ho4, hb4⟩; have c4 : w4.cell? ⟨w.heap.size, 1, none⟩ = some (.int .i64 (m : Int)) := (hb4.cell (p := ⟨w.heap.size, 1, none⟩) hsz).trans c1))
    all_goals
      have HB4 := Lib.hid (HB.out.trans (hb4.mono HB.out.size))
      clear hb4 hb3
      go_wp2_with fail
      refine bodyPost_ret (v := .tuple #[.slice (some ⟨g, 0, none⟩) n n, .int .i64 (m : Int), .bool true]) (by simp [results, Tryz.results119, go_sem]) rfl ⟨?_, HB4.out⟩
      exact Or.inl ⟨P, m, g, n, HR.out, by rw [HL.out], by rw [HL.out]; exact ho4.out⟩
  · have HR := Lib.hid (show o = none by rw [← HO.out, hn])
    clear hn
    go_wp2_with fail
    refine bodyPost_ret (v := .tuple #[.slice none 0 0, .int .i64 0, .bool false]) (by simp [results, Tryz.results119, go_sem]) rfl ⟨?_, hB⟩
    exact Or.inr ⟨HR.out, rfl⟩
end Go.Proofs.YtpoejnajnaolpaaGreatDoor
