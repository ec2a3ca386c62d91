import Derived.Deep.QuietTactic
import Derived.BigQuiet
import Derived.Test.YtpgfnlhfciacoaaGreatDoorPGb
import Derived.Deep.RegionLaw
import Derived.Laws.CopyRow
import Derived.Laws.CopyOwn
import Derived.IntWalk
import Derived.Shelf.Bytes.SlIndexAt
set_option maxRecDepth 100000
set_option maxHeartbeats 2000000
open Go.Lib renaming hid → Hi
namespace Go.Proofs.YtpgfnlhfciacoaaGreatDoor
open Go.RowKit
structure Cur (bs : Nat) (A : Option Addr) (c : Nat) (l : List UInt8) (at_ : Int) (w : World) : Prop where
 blk : w.heap[bs]? = some (.cells #[.slice A l.length c, .int .i64 at_] 193 (0, 0))
 lies : ByAt bs w A c l
section
variable {bs c : Nat} {A : Option Addr} {l : List UInt8} {at_ : Int} {w w' : World}
theorem Cur.grow (h : Cur bs A c l at_ w) (hb : Below w.heap.size w w') : Cur bs A c l at_ w' :=
 ⟨(hb.block bs (Array.getElem?_eq_some_iff.1 h.blk).1).trans h.blk, h.lies.grow hb⟩
theorem Cur.c0 (h : Cur bs A c l at_ w) : w.cell? ⟨bs, 0, none⟩ = some (.slice A l.length c) := cell_of_row w bs 0 _ _ _ h.blk
theorem Cur.c1 (h : Cur bs A c l at_ w) : w.cell? ⟨bs, 1, none⟩ = some (.int .i64 at_) := cell_of_row w bs 1 _ _ _ h.blk
theorem Cur.lt (h : Cur bs A c l at_ w) : bs < w.heap.size := (Array.getElem?_eq_some_iff.1 h.blk).1
theorem Cur.set (h : Cur bs A c l at_ w) (x : Int) : Cur bs A c l x (w.setCell ⟨bs, 1, none⟩ (.int .i64 x)) := by
 refine ⟨?_, h.lies.below ((Below.refl bs w).setCell (p := ⟨bs, 1, none⟩) (Nat.le_refl _) _)⟩
 rw [Joins.block_setCell h.blk]
 rfl
end
theorem ZF (w : World) (n : Nat) : Below w.heap.size w (w.drewN n) := ⟨rfl, rfl, rfl, Nat.le_refl _, fun _ _ => rfl⟩
theorem rest_in (bs c : Nat) (A : Option Addr) (l : List UInt8) (k : Nat) (hk : k ≤ l.length) (_hl : l.length ≤ 1000000000) (w : World) (h : Cur bs A c l (k : Int) w) :
 Calls Tryz.prog 216 #[.pointer (some ⟨bs, 0, none⟩)] w fun e w' => e = .returned (.slice (offA A c k) (l.length - k) (c - k)) ∧ Below w.heap.size w w' := by
 have c0 := h.c0
 have c1 := h.c1
 have hsl := fun W => slice_l A l.length c k hk W
 have hse := fun x lo hi mx W => YY x lo hi mx W
 have e1 : decide ((k : Int) < 0) = false := by simp
 have e2 : decide (l.length < k) = false := by simp; omega
 have e3 : decide ((l.length : Int) < (k : Int)) = false := by simp; omega
 clear h
 go_enter Tryz.func216, Tryz.ntmps216
 go_wp2_with fail
 go_quiet (fail)
 go_wp2_with fail
 go_quiet (fail)
 go_wp2_with fail
 go_ret
 exact ⟨rfl, YA (ZF _ _) (ZF _ _)⟩
theorem rest_out (bs c : Nat) (A : Option Addr) (l : List UInt8) (x : Int) (h1 : -9223372036854775808 ≤ x) (h2 : x ≤ 9223372036854775807) (hx : x < 0 ∨ (l.length : Int) < x) (_hl : l.length ≤ 1000000000) (w : World) (h : Cur bs A c l x w) :
 Calls Tryz.prog 216 #[.pointer (some ⟨bs, 0, none⟩)] w fun e w' => e = .returned (.slice none 0 0) ∧ Below w.heap.size w w' := by
 have c0 := h.c0
 have c1 := h.c1
 clear h
 by_cases hn : x < 0
 · have e1 : decide (x < 0) = true := by simp; omega
   clear hx
   go_enter Tryz.func216, Tryz.ntmps216
   go_wp2_with fail
   go_quiet (fail)
   go_wp2_with fail
   go_ret
   exact ⟨rfl, ZF _ _⟩
 · have e1 : decide (x < 0) = false := by simp; omega
   have e2 : decide ((l.length : Int) < x) = true := by simp; omega
   clear hx
   go_enter Tryz.func216, Tryz.ntmps216
   go_wp2_with fail
   go_quiet (fail)
   go_wp2_with fail
   go_ret
   exact ⟨rfl, ZF _ _⟩
theorem pass_t (bs c : Nat) (A : Option Addr) (l : List UInt8) (k : Nat) (x : UInt8) (hx : l[k]? = some x) (hl : l.length ≤ 1000000000) (w : World) (h : Cur bs A c l (k : Int) w) :
 Calls Tryz.prog 197 #[.pointer (some ⟨bs, 0, none⟩), .int .u8 (x.toNat : Int)] w fun e w' => e = .returned (.bool true) ∧ Hid (Cur bs A c l ((k : Int) + 1) w') ∧ Below bs w w' := by
 obtain ⟨hlt, hxe⟩ := List.getElem?_eq_some_iff.1 hx
 have R := Hi (rest_in bs c A l k (by omega) hl w h)
 have hR := h.lies.drop (lo := k) (by omega)
 have HH := Hi h
 have hbs := h.lt
 have hlen : 0 < l.length - k := by omega
 clear hx h
 go_enter Tryz.func197, Tryz.ntmps197
 go_wp2_with fail
 refine R.out.mono ?_
 rintro e w1 ⟨rfl, hb⟩
 have H1 := Hi (HH.out.grow hb)
 obtain ⟨b, off, he, _, _, hc⟩ := (hR.grow hb).cell (j := 0) (by rw [List.length_drop]; omega)
 rw [List.getElem_drop, show l[k + 0] = x by simpa using hxe] at hc
 simp only [Nat.add_zero] at hc
 rw [he]
 have c1 := H1.out.c1
 have f1 := Joins.unfrozen_of_block H1.out.blk 1
 have HS := Hi (H1.out.set ((k : Int) + 1))
 have HB := Hi ((hb.mono (Nat.le_of_lt hbs)).setCell (p := ⟨bs, 1, none⟩) (Nat.le_refl _) (.int .i64 ((k : Int) + 1)))
 clear R hR HH hb he hxe H1
 go_wp2_with fail
 go_ret
 exact ⟨rfl, HS.out, HB.out⟩
theorem pass_f (bs c : Nat) (A : Option Addr) (l : List UInt8) (k : Nat) (hk : k ≤ l.length) (x : UInt8) (hx : l[k]? ≠ some x) (hl : l.length ≤ 1000000000) (w : World) (h : Cur bs A c l (k : Int) w) :
 Calls Tryz.prog 197 #[.pointer (some ⟨bs, 0, none⟩), .int .u8 (x.toNat : Int)] w fun e w' => e = .returned (.bool false) ∧ Hid (Cur bs A c l (k : Int) w') ∧ Below bs w w' := by
 have R := Hi (rest_in bs c A l k hk hl w h)
 have hR := h.lies.drop (lo := k) hk
 have HH := Hi h
 have hbs := h.lt
 clear h
 by_cases hlt : k < l.length
 · have hne : l[k].toNat ≠ x.toNat := fun e => hx (by rw [List.getElem?_eq_getElem hlt]; congr 1; exact UInt8.toNat_inj.1 e)
   have e1 : ((l[k].toNat : Int) == (x.toNat : Int)) = false := by simp; omega
   have e2 : ((l[k].toNat : Int) != (x.toNat : Int)) = true := by simp; omega
   have hlen : 0 < l.length - k := by omega
   clear hx hne
   go_enter Tryz.func197, Tryz.ntmps197
   go_wp2_with fail
   refine R.out.mono ?_
   rintro e w1 ⟨rfl, hb⟩
   have H1 := Hi (HH.out.grow hb)
   obtain ⟨b, off, he, _, _, hc⟩ := (hR.grow hb).cell (j := 0) (by rw [List.length_drop]; omega)
   rw [List.getElem_drop] at hc
   simp only [Nat.add_zero] at hc
   rw [he]
   clear R hR HH he
   go_wp2_with fail
   go_ret
   exact ⟨rfl, H1.out, hb.mono (Nat.le_of_lt hbs)⟩
 · obtain rfl : k = l.length := by omega
   rw [Nat.sub_self] at R
   clear hx hR
   go_enter Tryz.func197, Tryz.ntmps197
   go_wp2_with fail
   refine R.out.mono ?_
   rintro e w1 ⟨rfl, hb⟩
   have H1 := Hi (HH.out.grow hb)
   clear R HH
   go_wp2_with fail
   go_ret
   exact ⟨rfl, H1.out, hb.mono (Nat.le_of_lt hbs)⟩
theorem pass_out (bs c : Nat) (A : Option Addr) (l : List UInt8) (x : Int) (h1 : -9223372036854775808 ≤ x) (h2 : x ≤ 9223372036854775807) (hx : x < 0 ∨ (l.length : Int) < x) (y : Int) (hl : l.length ≤ 1000000000) (w : World) (h : Cur bs A c l x w) :
 Calls Tryz.prog 197 #[.pointer (some ⟨bs, 0, none⟩), .int .u8 y] w fun e w' => e = .returned (.bool false) ∧ Hid (Cur bs A c l x w') ∧ Below bs w w' := by
 have R := Hi (rest_out bs c A l x h1 h2 hx hl w h)
 have HH := Hi h
 have hbs := h.lt
 clear h hx
 go_enter Tryz.func197, Tryz.ntmps197
 go_wp2_with fail
 refine R.out.mono ?_
 rintro e w1 ⟨rfl, hb⟩
 have H1 := Hi (HH.out.grow hb)
 clear R HH
 go_wp2_with fail
 go_ret
 exact ⟨rfl, H1.out, hb.mono (Nat.le_of_lt hbs)⟩
theorem Cur.cast {bs c : Nat} {A : Option Addr} {l : List UInt8} {x y : Int} {w : World} (h : Cur bs A c l x w) (e : x = y) : Cur bs A c l y w := e ▸ h
theorem Cur.byte {bs c : Nat} {A : Option Addr} {l : List UInt8} {x : Int} {w : World} (h : Cur bs A c l x w) {k : Nat} {d : UInt8} (hd : l[k]? = some d) :
 ∃ b off, offA A c k = some ⟨b, off, none⟩ ∧ b < w.heap.size ∧ w.cell? ⟨b, off, none⟩ = some (.int .u8 (d.toNat : Int)) := by
 obtain ⟨hlt, rfl⟩ := List.getElem?_eq_some_iff.1 hd
 obtain ⟨b, off, he, _, hw, hc⟩ := (h.lies.drop (lo := k) (by omega)).cell (j := 0) (by rw [List.length_drop]; omega)
 rw [List.getElem_drop] at hc
 simp only [Nat.add_zero] at hc
 exact ⟨b, off, he, hw, hc⟩
theorem cur_new {B c : Nat} {A : Option Addr} {l : List UInt8} {w : World} (hA : ByAt B w A c l) (x : Int) : Cur w.heap.size A c l x (w.alloc (.cells #[.slice A l.length c, .int .i64 x] 193)) :=
 ⟨YD _ _, hA.here.below ((Below.refl _ _).alloc (Nat.le_refl _) _)⟩
theorem takeWhile_at {p : UInt8 → Bool} (r : List UInt8) (j : Nat) (hj : j ≤ r.length) (ha : (r.take j).all p = true) (hend : ∀ h : j < r.length, p r[j] = false) : r.takeWhile p = r.take j := by
 induction r generalizing j with
 | nil => simp
 | cons x r ih =>
   cases j with
   | zero =>
     have := hend (by simp)
     simp only [List.getElem_cons_zero] at this
     simp [this]
   | succ j =>
     rw [List.take_succ_cons, List.all_cons, Bool.and_eq_true] at ha
     rw [List.takeWhile_cons, if_pos ha.1, List.take_succ_cons, ih j (by simpa using hj) ha.2 (fun h => by have := hend (by simpa using h); rwa [List.getElem_cons_succ] at this)]
theorem dig_all_snoc (r : List UInt8) (j : Nat) (h : j < r.length) (ha : (r.take j).all QC = true) (hd : QC r[j] = true) : (r.take (j + 1)).all QC = true := by
 rw [List.take_succ_eq_append_getElem h, List.all_append, ha]
 simp [hd]
def dgL (r : List UInt8) : List UInt8 := r.takeWhile QC
theorem dgL_le (r : List UInt8) : (dgL r).length ≤ r.length := List.takeWhile_sublist _ |>.length_le
theorem digits_any (bs c : Nat) (A : Option Addr) (l : List UInt8) (k : Nat) (hk : k ≤ l.length) (hl : l.length ≤ 1000000000) (w : World) (h : Cur bs A c l (k : Int) w) :
 Calls Tryz.prog 199 #[.pointer (some ⟨bs, 0, none⟩)] w fun e w' => e = .returned (.string ⟨(dgL (l.drop k)).toArray⟩) ∧ Hid (Cur bs A c l ((k : Int) + ((dgL (l.drop k)).length : Int)) w') ∧ Below bs w w' := by
 have R := Hi (rest_in bs c A l k hk hl w h)
 have HH := Hi h
 have hbs := h.lt
 have hle := h.lies.le
 have hse := fun x lo hi mx W => YY x lo hi mx W
 have HL := Hi (show (l.drop k).length = l.length - k by rw [List.length_drop])
 have hR0 := h.lies.drop (lo := k) hk
 have HR0 := Hi hR0
 clear h hR0
 obtain ⟨q, hq⟩ : ∃ q, dgL (l.drop k) = q := ⟨_, rfl⟩
 rw [hq]
 have HQ := Hi hq
 clear hq
 obtain ⟨r, hr⟩ : ∃ r, l.drop k = r := ⟨_, rfl⟩
 rw [hr] at HL HR0 HQ
 clear hr
 go_enter Tryz.func199, Tryz.ntmps199
 go_wp2_with fail
 refine R.out.mono ?_
 rintro e w1 ⟨rfl, hb⟩
 have H1 := Hi (HH.out.grow hb)
 have HR1 := Hi (HR0.out.grow hb)
 have c1 := H1.out.c1
 have f1 := Joins.unfrozen_of_block H1.out.blk 1
 have HB := Hi (hb.mono (Nat.le_of_lt hbs))
 obtain ⟨m, hm⟩ : ∃ m, l.length - k = m := ⟨_, rfl⟩
 rw [hm] at HL
 rw [hm]
 have hm1 : m ≤ 1000000000 := by omega
 have hm2 : m ≤ c - k := by omega
 have hm3 : k + m ≤ l.length := by omega
 clear hm hb HH R HR0
 go_wp2_with fail
 go_loop [4] (fun i => ∃ j : Nat, j ≤ m ∧ i = .int .i64 (j : Int) ∧ Hid ((r.take j).all QC = true)) (fun i => m - (intOf i).toNat)
 case atStart => exact ⟨0, Nat.zero_le _, rfl, rfl⟩
 case round =>
  obtain ⟨j, hj, rfl, hD⟩ := hrel
  have stop : ∀ (_ : ∀ h : j < r.length, QC r[j] = false), q = r.take j := fun hend => by
   rw [← HQ.out]; exact takeWhile_at r j (by rw [HL.out]; exact hj) hD.out hend
  have stop := Hi stop
  have done : q = r.take j → Hid (q.length = j) ∧ Hid ((convert 24 9 (.slice (offA A c k) j (c - k))).run Tryz.prog (w1.setCell ⟨bs, 1, none⟩ (.int .i64 ((k : Int) + (j : Int)))) = .ok (.string ⟨q.toArray⟩) (w1.setCell ⟨bs, 1, none⟩ (.int .i64 ((k : Int) + (j : Int))))) ∧ Hid (Cur bs A c l ((k : Int) + (q.length : Int)) (w1.setCell ⟨bs, 1, none⟩ (.int .i64 ((k : Int) + (j : Int))))) ∧ Hid (Below bs w (w1.setCell ⟨bs, 1, none⟩ (.int .i64 ((k : Int) + (j : Int))))) := fun hqe => by
   have hql : q.length = j := by rw [hqe, List.length_take, HL.out]; omega
   have hcur := H1.out.set ((k : Int) + (j : Int))
   refine ⟨hql, ?_, ?_, HB.out.setCell (p := ⟨bs, 1, none⟩) (Nat.le_refl _) _⟩
   · have hT := (HR1.out.take (hi := j) (by rw [HL.out]; exact hj)).below ((Below.refl bs w1).setCell (p := ⟨bs, 1, none⟩) (Nat.le_refl _) (.int .i64 ((k : Int) + (j : Int))))
     rw [← hqe] at hT
     exact convS bs _ _ (c - k) j q hT hql
   · rw [hql]; exact hcur
  have done := Hi done
  have hsl := fun W => slice_h (offA A c k) m (c - k) j (by omega) W
  by_cases hlt : j < m
  · have hlr : j < r.length := by rw [HL.out]; exact hlt
    obtain ⟨b, off, he, _, _, hc⟩ := HR1.out.cell hlr
    have hn : r[j].toNat ≤ 255 := by have := r[j].toNat_lt; omega
    by_cases h1 : 48 ≤ r[j].toNat
    · by_cases h2 : r[j].toNat ≤ 57
      · have HN := Hi (dig_all_snoc r j hlr hD.out (by unfold QC; simp [h1, h2]))
        have HE := Hi he
        rw [he]
        clear he stop done
        generalize r[j].toNat = x at *
        go_wp2_with fail
        go_round
        case rel => exact ⟨j + 1, by omega, by go_num, HN.out⟩
        case measure => simp [intOf]; omega
      · have S := done.out (stop.out (fun _ => by unfold QC; simp [h2]))
        obtain ⟨hq1, hcv, hcu, hbb⟩ := S
        have hcv := hcv.out
        have HE := Hi he
        clear stop done
        rw [he] at hcv hsl
        rw [he]
        clear he
        generalize r[j].toNat = x at *
        go_wp2_with fail
        go_ret
        exact ⟨rfl, hcu, hbb.out⟩
    · have S := done.out (stop.out (fun _ => by unfold QC; simp; omega))
      obtain ⟨hq1, hcv, hcu, hbb⟩ := S
      have hcv := hcv.out
      have HE := Hi he
      clear stop done
      rw [he] at hcv hsl
      rw [he]
      clear he
      generalize r[j].toNat = x at *
      go_wp2_with fail
      go_ret
      exact ⟨rfl, hcu, hbb.out⟩
  · obtain rfl : j = m := by omega
    have S := done.out (stop.out (fun h => by rw [HL.out] at h; omega))
    obtain ⟨hq1, hcv, hcu, hbb⟩ := S
    have hcv := hcv.out
    clear stop done
    go_wp2_with fail
    go_ret
    exact ⟨rfl, hcu, hbb.out⟩
theorem special_any (n : Nat) (h : n ≤ 255) (w : World) :
 Calls Tryz.prog 228 #[.int .u8 n] w fun e w' => e = .returned (.bool (spN n)) ∧ w = w' := by
 by_cases h34 : n = 34
 · subst h34
   go_enter Tryz.func228, Tryz.ntmps228
   go_wp2_with fail
   go_ret
   exact ⟨rfl, rfl⟩
 · have e1 : ((n : Int) == 34) = false := by simp; omega
   have R := Hi (show ((n : Int) == 92) = spN n by unfold spN; rw [Bool.eq_iff_iff]; simp; omega)
   go_enter Tryz.func228, Tryz.ntmps228
   go_wp2_with fail
   go_ret
   exact ⟨YU R.out, rfl⟩
def ZV (l : List UInt8) : List Value := l.map fun c => Value.int .u8 (c.toNat : Int)
theorem QL (l : List UInt8) : (ZV l).length = l.length := by simp [ZV]
theorem cellsB_append (a b : List UInt8) : ZV (a ++ b) = ZV a ++ ZV b := by simp [ZV]
structure Col (B g bu ba size : Nat) (l : List UInt8) (w : World) : Prop where
 bg : B ≤ g
 bbu : B ≤ bu
 bba : B ≤ ba
 gu : g ≠ bu
 ga : g ≠ ba
 ua : bu ≠ ba
 row : ∃ tail : List Value, w.heap[g]? = some (.cells (ZV l ++ tail).toArray 5 (0, 0)) ∧ l.length + tail.length = size
 used : w.heap[bu]? = some (.cells #[.int .i64 (l.length : Int)] 3 (0, 0))
 all : w.heap[ba]? = some (.cells #[.slice (some ⟨g, 0, none⟩) size size] 24 (0, 0))
theorem Col.below {B g bu ba size : Nat} {l : List UInt8} {w w' : World} (h : Col B g bu ba size l w) (hb : Below w.heap.size w w') : Col B g bu ba size l w' := by
 obtain ⟨h1, h2, h3, h4, h5, h6, ⟨t, h7, h7'⟩, h8, h9⟩ := h
 exact ⟨h1, h2, h3, h4, h5, h6, ⟨t, (hb.block g (Array.getElem?_eq_some_iff.1 h7).1).trans h7, h7'⟩, (hb.block bu (Array.getElem?_eq_some_iff.1 h8).1).trans h8, (hb.block ba (Array.getElem?_eq_some_iff.1 h9).1).trans h9⟩
theorem infoB : (Tryz.prog.info? 5).map (fun i => (i.zero, i.size, i.bytes)) = some (some (.int .u8 0), 1, 1) := by kernel_rfl
theorem step_copy_col {P : Program} {ops : Array Oper} {o : Oper} {a : Act} {w : World} {K : Act → World → Prop} {Q : Exit → Act → World → Prop} {E : Prop} (hgd : o.guard = none) (d s : Operand) (dT sT : TypeId)
 (ho : o.op = .call { callee := .builtin .copy, args := #[d, s], argTypes := #[dT, sT] }) (elem : TypeId) (hu : P.underlying dT = some (.slice elem)) (hsz : (P.info? elem).map (·.size) = some 1)
 (dp sp : Option Addr) (dLen dCap sLen sCap : Nat) (hd : a.eval d = .slice dp dLen dCap) (hs : a.eval s = .slice sp sLen sCap)
 (g off : Nat) (cur : List Value) (t : TypeId) (hg : w.heap[g]? = some (.cells cur.toArray t (0, 0))) (cs : List Value) (m : Nat) (hm : cs.length = m) (hn : cs.length = Nat.min sLen dLen)
 (hpos : 0 < cs.length → dp = some ⟨g, off, none⟩ ∧ ∃ ad, sp = some ad ∧ ∀ j v, cs[j]? = some v → w.cell? (ad.add j) = some v)
 (hfit : off + cs.length ≤ cur.length) (h1 : ∀ v ∈ cs, v.oneCell' = true)
 (h : ∀ w', Hid (w'.heap[g]? = some (.cells (splice cur off cs).toArray t (0, 0))) → w.grownBy w' (some g) → K (a.put o.dst (.int .i64 (m : Int))) w') :
 if Region.wanted o (yielded ops a.tmps) = true then Oper.wp P o a w K Q else E := by
 subst hm
 have hw : Region.wanted o (yielded ops a.tmps) = true := by simp [Region.wanted, hgd]
 rw [if_pos hw]
 by_cases h0 : cs.length = 0
 · obtain rfl : cs = [] := List.eq_nil_of_length_eq_zero h0
   have hrun := run_copy_none (P := P) w dT sT o.type elem dp sp dLen dCap sLen sCap hu hsz (by simpa using hn.symm)
   unfold Oper.wp
   simp [execOp, ho, resolve, invoke, builtin, hd, hs, hrun, Result.andThen]
   exact h w (show _ = _ by simpa [splice] using hg) (World.grownBy.refl w _)
 · obtain ⟨rfl, ad, rfl, hsrc⟩ := hpos (by omega)
   have hrun := run_copy_row (P := P) w dT sT o.type elem g off dLen dCap ad sLen sCap cur.toArray t cs hu hsz hg hn hsrc (by simpa using hfit) h1
   unfold Oper.wp
   simp [execOp, ho, resolve, invoke, builtin, hd, hs, hrun, Result.andThen]
   refine h _ (show _ = _ by simpa [splice] using setRow_heap w g _ _ t _ hg) ⟨rfl, rfl, rfl, by simp [World.setRow], fun k hk hne => setRow_other w g k _ (fun e => hne (by rw [e]))⟩
theorem splice_end (l p : List UInt8) (tail : List Value) : splice (ZV l ++ tail) l.length (ZV p) = ZV (l ++ p) ++ tail.drop p.length := by
 unfold splice
 have e1 : (ZV l ++ tail).take l.length = ZV l := by rw [← QL l, List.take_left']; rfl
 have e2 : (ZV l ++ tail).drop (l.length + (ZV p).length) = tail.drop p.length := by
  rw [QL, ← QL l, List.drop_append]
  simp
 rw [e1, e2, cellsB_append, List.append_assoc]
theorem oneB (l : List UInt8) : ∀ v ∈ ZV l, v.oneCell' = true := by
 intro v hv
 obtain ⟨c, _, rfl⟩ := List.mem_map.1 hv
 rfl
theorem ByAt.cellsAt {B c : Nat} {w W : World} {A : Option Addr} {p : List UInt8} (h : ByAt B w A c p) (hp : 0 < p.length) (hW : W.heap = w.heap) : ∃ ad, A = some ad ∧ ∀ j v, (ZV p)[j]? = some v → W.cell? (ad.add j) = some v := by
 rcases h.lies with rfl | ⟨b, off, rfl, _, _, hc⟩
 · simp at hp
 · refine ⟨_, rfl, fun j v hj => ?_⟩
   have hlt : j < p.length := by
    have := (List.getElem?_eq_some_iff.1 hj).1
    rwa [QL] at this
   have e : (ZV p)[j]? = some (.int .u8 (p[j].toNat : Int)) := by simp [ZV, hlt]
   rw [e] at hj
   rw [Addr.add_lit, ← Option.some.inj hj, ← hc j hlt]
   unfold World.cell?
   rw [hW]
theorem hposB {B c n g size : Nat} {w W : World} {A : Option Addr} {l p : List UInt8} {tail : List Value} (h : ByAt B w A c p) (hl : l.length + tail.length = size) (hn : p.length = n) (hfit : l.length + n ≤ size) (hW : W.heap = w.heap) :
 0 < (ZV p).length → offA (some ⟨g, 0, none⟩) size l.length = some ⟨g, l.length, none⟩ ∧ ∃ ad, A = some ad ∧ ∀ j v, (ZV p)[j]? = some v → W.cell? (ad.add j) = some v := fun h0 => by
 rw [QL] at h0
 refine ⟨?_, h.cellsAt h0 hW⟩
 unfold offA
 rw [if_neg (by omega)]
 simp only [Option.map_some, Addr.add_lit, Nat.zero_add, Nat.mul_one]
theorem col_end {B g bu ba size n : Nat} {l p : List UInt8} {w w' : World} {tail : List Value} (bg : B ≤ g) (bbu : B ≤ bu) (bba : B ≤ ba) (gu : g ≠ bu) (ga : g ≠ ba) (ua : bu ≠ ba) (hl : l.length + tail.length = size) (hn : p.length = n) (hfit : l.length + n ≤ size)
 (R : w'.heap[g]? = some (.cells (splice (ZV l ++ tail) l.length (ZV p)).toArray 5 (0, 0))) (K1 : w'.heap[bu]? = some (.cells #[.int .i64 (l.length : Int)] 3 (0, 0))) (K2 : w'.heap[ba]? = some (.cells #[.slice (some ⟨g, 0, none⟩) size size] 24 (0, 0))) (G : w.drew.grownBy w' (some g)) (hgw : g < w.heap.size) :
 Col B g bu ba size (l ++ p) (w'.setCell ⟨bu, 0, none⟩ (.int .i64 ((l.length : Int) + (n : Int)))) ∧ Below B w (w'.setCell ⟨bu, 0, none⟩ (.int .i64 ((l.length : Int) + (n : Int)))) := by
 rw [splice_end] at R
 have other : ∀ k, k ≠ bu → (w'.setCell ⟨bu, 0, none⟩ (.int .i64 ((l.length : Int) + (n : Int)))).heap[k]? = w'.heap[k]? := fun k hk => Below.heap_setCell _ _ _ k hk
 refine ⟨⟨bg, bbu, bba, gu, ga, ua, ⟨tail.drop p.length, (other g gu).trans R, by rw [List.length_append, List.length_drop]; omega⟩, ?_, (other ba (Ne.symm ua)).trans K2⟩, ?_⟩
 · rw [Joins.block_setCell K1]
   simp [hn]
 · have h1 : Below B w w' := (Below.refl B w).drew.grown G (by show B ≤ w.heap.size; omega) (fun k e => by cases e; exact bg)
   exact h1.setCell (p := ⟨bu, 0, none⟩) bbu _
theorem put_any (B g bu ba size : Nat) (l p : List UInt8) (B' : Nat) (A : Option Addr) (c n : Nat) (hn : p.length = n) (hfit : l.length + n ≤ size) (hsz : size ≤ 1000000000) (w : World) (hC : Col B g bu ba size l w) (hP : ByAt B' w A c p) :
 Calls Tryz.prog 213 #[.slice A n c, .pointer (some ⟨bu, 0, none⟩), .pointer (some ⟨ba, 0, none⟩)] w fun e w' =>
  e = .returned (.slice (some ⟨g, 0, none⟩) (l.length + n) size) ∧ Col B g bu ba size (l ++ p) w' ∧ Below B w w' := by
 obtain ⟨bg, bbu, bba, gu, ga, ua, ⟨tail, hrow, hlen⟩, hu, ha⟩ := hC
 have c1 : w.cell? ⟨bu, 0, none⟩ = some (.int .i64 (l.length : Int)) := cell_of_row w bu 0 _ _ _ hu
 have c2 : w.cell? ⟨ba, 0, none⟩ = some (.slice (some ⟨g, 0, none⟩) size size) := cell_of_row w ba 0 _ _ _ ha
 have hs1 := fun W => slice_l (some ⟨g, 0, none⟩) size size l.length (by omega) W
 have hs2 : ∀ W : World, (Instr.slice 24 (.slice (some ⟨g, 0, none⟩) size size) none (some (.int .i64 ((l.length : Int) + (n : Int)))) none).run Tryz.prog W = .ok (.slice (some ⟨g, 0, none⟩) (l.length + n) size) W := fun W => by
  have := slice_h (some ⟨g, 0, none⟩) size size (l.length + n) (by omega) W
  rwa [Int.natCast_add] at this
 have hse := fun x lo hi mx W => YY x lo hi mx W
 have HR := Hi hrow
 have HU := Hi hu
 have HA := Hi ha
 have HN := Hi hn
 have HL := Hi hlen
 have HP := Hi hP
 have H1 := Hi (show (ZV p).length = Nat.min n (size - l.length) by rw [QL, hn]; exact (Nat.min_eq_left (by omega)).symm)
 have H2 := Hi (show l.length + (ZV p).length ≤ (ZV l ++ tail).length by rw [List.length_append, QL, QL, hn]; omega)
 clear hrow hu ha hn hlen hP
 go_enter Tryz.func213, Tryz.ntmps213
 have hua : ba ≠ bu := Ne.symm ua
 have KF : ∀ (W w' : World), W.heap = w.heap → W.grownBy w' (some g) → w'.heap[bu]? = some (.cells #[.int .i64 (l.length : Int)] 3 (0, 0)) ∧ w'.heap[ba]? = some (.cells #[.slice (some ⟨g, 0, none⟩) size size] 24 (0, 0)) := fun W w' e G => by
  refine ⟨(G.block bu ?_ (fun e => gu (Option.some.inj e).symm)).trans (e ▸ HU.out), (G.block ba ?_ (fun e => ga (Option.some.inj e).symm)).trans (e ▸ HA.out)⟩
  · rw [e]; exact (Array.getElem?_eq_some_iff.1 HU.out).1
  · rw [e]; exact (Array.getElem?_eq_some_iff.1 HA.out).1
 have KF := Hi KF
 go_wp2_with fail
 have HSZ := Hi (show (Tryz.prog.info? 5).map (·.size) = some 1 by kernel_rfl)
 have H3 := Hi (show (ZV p).length = n by rw [QL]; exact HN.out)
 have HR2 := Hi (show w.drew.heap[g]? = some (.cells (ZV l ++ tail).toArray 5 (0, 0)) from HR.out)
 have HPOS := Hi (hposB (g := g) (w := w) (W := w.drew) (A := A) (l := l) (p := p) HP.out HL.out HN.out hfit rfl)
 have KF := Hi (fun (w' : World) (G : w.drew.grownBy w' (some g)) => KF.out w.drew w' rfl G)
 go_region_law (refine step_copy_col rfl (.tmp 8) (.tmp 9) 24 24 rfl 5 Tryz.underlying24 HSZ.out (offA (some ⟨g, 0, none⟩) size l.length) A (size - l.length) (size - l.length) n c rfl rfl g l.length (ZV l ++ tail) 5 HR2.out (ZV p) n H3.out H1.out HPOS.out H2.out (oneB p) ?_; intro w' R2 G2; have K2 := Hi (KF.out w' G2); have d1 := cell_of_row w' bu 0 _ _ _ K2.out.1; have d2 := cell_of_row w' ba 0 _ _ _ K2.out.2; have f1 := Joins.unfrozen_of_block K2.out.1 0)
 all_goals
  have hE := Hi (col_end (p := p) bg bbu bba gu ga ua HL.out HN.out hfit R2.out K2.out.1 K2.out.2 G2 (Array.getElem?_eq_some_iff.1 HR.out).1)
  clear R2 G2 K2 KF HPOS HR2 HP HR HU HA H1 H2 H3
  go_wp2_with fail
  go_ret
  exact ⟨rfl, hE.out⟩
theorem Col.read {B g bu ba size : Nat} {l : List UInt8} {w : World} (h : Col B g bu ba size l w) : ByAt w.heap.size w (some ⟨g, 0, none⟩) size l := by
 obtain ⟨tail, hr, hl⟩ := h.row
 refine ⟨by omega, .inr ⟨g, 0, rfl, (Array.getElem?_eq_some_iff.1 hr).1, (Array.getElem?_eq_some_iff.1 hr).1, fun j hj => ?_⟩⟩
 rw [Nat.zero_add, cell_of_row w g j _ _ _ hr]
 simp only [List.getElem?_toArray]
 rw [List.getElem?_append_left (by rw [QL]; exact hj)]
 simp [ZV, hj]
theorem Col.own {B g bu ba size : Nat} {l : List UInt8} {w : World} (h : Col B g bu ba size l w) (hs : size ≤ 1000000000) : w.ownsRow B 5 1 (.slice (some ⟨g, 0, none⟩) l.length size) l.length (YF encB l) := by
 obtain ⟨tail, hr, hl⟩ := h.row
 have e : YF encB l = ZV l := flatB l
 refine ⟨by rw [e, QL, Nat.mul_one], .inr ⟨g, size, _, rfl, h.bg, hr, by omega, by unfold maxLen; omega, ?_, ?_⟩⟩
 · simp [QL]; omega
 · rw [e]
   simp [← QL l]
theorem put_at (B g bu ba size : Nat) (l p : List UInt8) (B' : Nat) (A : Option Addr) (c n m : Nat) (hn : p.length = n) (hm : l.length + n = m) (hfit : m ≤ size) (hsz : size ≤ 1000000000) (w : World) (hC : Col B g bu ba size l w) (hP : ByAt B' w A c p) :
 Calls Tryz.prog 213 #[.slice A n c, .pointer (some ⟨bu, 0, none⟩), .pointer (some ⟨ba, 0, none⟩)] w fun e w' =>
  e = .returned (.slice (some ⟨g, 0, none⟩) m size) ∧ Hid (Col B g bu ba size (l ++ p) w') ∧ Below B w w' := by
 subst hm
 exact put_any B g bu ba size l p B' A c n hn hfit hsz w hC hP
theorem byAt_one (w : World) (x : UInt8) (t : TypeId) : ByAt (w.heap.size + 1) (w.alloc (.cells #[.int .u8 (x.toNat : Int)] t)) (some ⟨w.heap.size, 0, none⟩) 1 [x] := by
 refine ⟨Nat.le_refl _, .inr ⟨w.heap.size, 0, rfl, by omega, by simp, fun j hj => ?_⟩⟩
 obtain rfl : j = 0 := by simpa using hj
 simp
theorem collector_any (size : Nat) (hs : size ≤ 1000000000) (w : World) :
 Calls Tryz.prog 193 #[.int .i64 (size : Int)] w fun e w' =>
  ∃ g bu ba, e = .returned (.func (Fn.func 213) #[] #[.pointer (some ⟨bu, 0, none⟩), .pointer (some ⟨ba, 0, none⟩)]) ∧ Col w.heap.size g bu ba size [] w' ∧ Below w.heap.size w w' := by
 obtain ⟨i0, hi, hz0, hz1, hz2⟩ := info_parts infoB
 have hmk : ∀ W : World, (Instr.makeSlice 24 (.int .i64 (size : Int)) (.int .i64 (size : Int))).run Tryz.prog W = .ok (.slice (some ⟨W.heap.size, 0, none⟩) size size) (W.alloc (.cells (madeCells (Value.int .u8 0).cells (size * 1)) 5)) := fun W => by
  have := run_make (P := Tryz.prog) W 24 5 i0 _ Tryz.underlying24 hi hz0 .i64 .i64 size size (by omega) (Int.le_refl _) (by rw [hz2]; omega) (by omega)
  rw [hz1] at this
  simpa using this
 clear hi hz0 hz1 hz2
 go_enter Tryz.func193, Tryz.ntmps193
 go_wp2_with fail
 go_ret
 have z1 : (w.alloc (.cells (madeCells #[Value.int .u8 0] size) 5)).heap.size = w.heap.size + 1 := World.size_alloc _ _
 have z2 : ((w.alloc (.cells (madeCells #[Value.int .u8 0] size) 5)).alloc (.cells #[.slice (some ⟨w.heap.size, 0, none⟩) size size] 24)).heap.size = w.heap.size + 1 + 1 := by rw [World.size_alloc, World.size_alloc]
 have r0 := YD w (.cells (madeCells #[Value.int .u8 0] size) 5)
 have r1 := YD (w.alloc (.cells (madeCells #[Value.int .u8 0] size) 5)) (.cells #[.slice (some ⟨w.heap.size, 0, none⟩) size size] 24)
 have r2 := YD ((w.alloc (.cells (madeCells #[Value.int .u8 0] size) 5)).alloc (.cells #[.slice (some ⟨w.heap.size, 0, none⟩) size size] 24)) (.cells #[.int .i64 0] 3)
 rw [z1] at r1
 rw [z2] at r2
 refine ⟨w.heap.size, _, _, rfl, ⟨Nat.le_refl _, by omega, by omega, by omega, by omega, by omega, ⟨(madeCells #[.int .u8 0] size).toList, ?_, ?_⟩, ?_, ?_⟩, ?_⟩
 · rw [Below.heap_alloc _ _ _ (by rw [z2]; omega), Below.heap_alloc _ _ _ (by rw [z1]; omega), r0]
   simp [ZV]
 · have := size_madeCells #[Value.int .u8 0] (size * 1)
   simpa using this
 · exact r2
 · rw [Below.heap_alloc _ _ _ (by rw [z2]; omega), r1]
 · exact (((Below.refl _ w).alloc (Nat.le_refl _) _).alloc (by rw [z1]; omega) _).alloc (by rw [z2]; omega) _
theorem byAt_34 (w : World) : ByAt (w.heap.size + 1) (w.alloc (.cells #[.int .u8 34] 5)) (some ⟨w.heap.size, 0, none⟩) 1 [34] := byAt_one w 34 _
theorem byAt_92 (w : World) : ByAt (w.heap.size + 1) (w.alloc (.cells #[.int .u8 92] 5)) (some ⟨w.heap.size, 0, none⟩) 1 [92] := byAt_one w 92 _
theorem idx92_any (B : Nat) (A : Option Addr) (c : Nat) (l : List UInt8) (n : Nat) (hn : l.length = n) (w : World) (hA : ByAt B w A c l) :
 Calls Tryz.prog 143 #[.slice A n c, .int .u8 92] w fun e w' => e = .returned (.int .i64 (Lib.indexByte l 92)) ∧ w = w' := by
 have hrun : (Extern.BytealgIndexByte.indexByte #[.slice A n c, .int .u8 92]).run Tryz.prog w = .ok (.int .i64 (Lib.indexByte l 92)) w := by
  rcases hA.lies with rfl | ⟨b, off, rfl, _, _, hc⟩
  · subst hn
    rcases A with _ | a
    · exact Lib.run_indexByteNil w 0 c 92
    · exact Lib.run_indexByteAt (P := Tryz.prog) w a 0 c [] rfl (fun i hi => absurd hi (Nat.not_lt_zero _)) 92
  · have := Lib.run_indexByteSlice (P := Tryz.prog) w b off n c (l.map fun x => (x.toNat : Int)) (by rw [List.length_map, hn]) (fun i hi => by
     rw [hc i (by omega)]
     simp [List.getD_eq_getElem?_getD, List.getElem?_eq_getElem (show i < l.length by omega)]) 92
    have e : Lib.bytesOf (l.map fun x => (x.toNat : Int)) = l := by
     unfold Lib.bytesOf
     rw [List.map_map]
     conv => rhs; rw [← List.map_id l]
     exact List.map_congr_left fun x _ => by simp
    rw [e] at this
    exact this
 generalize Lib.indexByte l 92 = r at *
 have HR := Hi hrun
 clear hrun hA
 go_enter Tryz.func143, Tryz.ntmps143
 go_wp2
 rw [run_callFunc_extern Tryz.func174 (by kernel_rfl) (by kernel_rfl) (by kernel_rfl) (e := Extern.BytealgIndexByte.indexByte) (by kernel_rfl), HR.out]
 simp only [Result.andThen]
 rw [Oper.upon_value]
 go_wp2
 go_ret
 exact ⟨rfl, rfl⟩
theorem idx_none {l : List UInt8} (h : Lib.indexByte l 92 = -1) : ZQ l = l :=
 plain_none l fun hm => by
  obtain ⟨k, hk, he⟩ := List.mem_iff_getElem.1 hm
  exact Lib.indexByte_none h k (by rw [List.getElem?_eq_getElem hk, he])
theorem idx_some {l : List UInt8} {o : Nat} (h : Lib.indexByte l 92 = o) (hw : wfB l = true) : ∃ d, o + 1 < l.length ∧ l[o + 1]? = some d ∧ wfB (l.drop (o + 2)) = true ∧ ZQ l = l.take o ++ d :: ZQ (l.drop (o + 2)) := by
 obtain ⟨h1, h2⟩ := Lib.indexByte_some h
 obtain ⟨hlt, he⟩ := List.getElem?_eq_some_iff.1 h1
 have hsplit : l = l.take o ++ 92 :: l.drop (o + 1) := by
  conv => lhs; rw [← List.take_append_drop o l, List.drop_eq_getElem_cons hlt, he]
 have hno : (92 : UInt8) ∉ l.take o := fun hm => by
  obtain ⟨k, hk, hke⟩ := List.mem_iff_getElem.1 hm
  rw [List.length_take] at hk
  refine h2 k (by omega) ?_
  rw [List.getElem?_eq_getElem (by omega)]
  rw [List.getElem_take] at hke
  rw [hke]
 obtain ⟨d, v', e1, e2, e3⟩ := plain_at l _ _ hsplit hno hw
 have e4 : l.drop (o + 2) = v' := by
  rw [show o + 2 = (o + 1) + 1 by omega, ← List.drop_drop, e1]; rfl
 have e5 : l[o + 1]? = some d := by
  rw [← Nat.add_zero (o + 1), ← List.getElem?_drop, e1]; rfl
 exact ⟨d, (List.getElem?_eq_some_iff.1 e5).1, e5, by rw [e4]; exact e2, by rw [e4]; exact e3⟩
theorem plainD_len (b : List UInt8) : (ZQ b).length ≤ b.length := by
 induction b using ZQ.induct with
 | case1 => simp [ZQ]
 | case2 c => simp [ZQ]
 | case3 d r ih => simp [ZQ]; omega
 | case4 c d r h92 ih => rw [ZQ, if_neg h92]; simp at ih ⊢; omega
theorem byAt_val (w : World) (x : UInt8) : ByAt (w.heap.size + 1) (w.alloc (.cells #[.int .u8 (x.toNat : Int)] 5)) (some ⟨w.heap.size, 0, none⟩) 1 [x] := byAt_one w x _
theorem plain_any (B : Nat) (A : Option Addr) (c n : Nat) (l : List UInt8) (hn : l.length = n) (hl : l.length ≤ 1000000) (hw : wfB l = true) (w : World) (hA : ByAt B w A c l) :
 Calls Tryz.prog 201 #[.slice A n c] w fun e w' => ∃ g c', e = .returned (.slice (some ⟨g, 0, none⟩) (ZQ l).length c') ∧ w'.ownsRow w.heap.size 5 1 (.slice (some ⟨g, 0, none⟩) (ZQ l).length c') (ZQ l).length (YF encB (ZQ l)) ∧ Below w.heap.size w w' := by
 have HA := Hi hA.here
 have HW := Hi hw
 have HN := Hi hn
 have hn1 : n ≤ 1000000 := by omega
 have CO := Hi (fun w1 => collector_any n (by omega) w1)
 have IX := Hi (fun A c m b hm w1 (hb : ByAt w.heap.size w1 A c b) => idx92_any w.heap.size A c b m hm w1 hb)
 obtain ⟨P, hP⟩ : ∃ P, ZQ l = P := ⟨_, rfl⟩
 have hPl := plainD_len l
 rw [hP, hn] at hPl
 rw [hP]
 have HP := Hi hP
 clear hA hw hn hP
 have hse := fun x lo hi mx W => YY x lo hi mx W
 go_enter Tryz.func201, Tryz.ntmps201
 go_wp2_with fail
 refine (CO.out _).mono ?_
 rintro e w1 ⟨g, bu, ba, rfl, hC, hb⟩
 have HC := Hi hC
 have HB := Hi hb
 clear hC hb CO
 go_wp2_with fail
 go_loopg [0] n (fun gg s0 wr => ∃ (A' : Option Addr) (c' m : Nat) (b X : List UInt8), s0 = .slice A' m c' ∧ m ≤ gg ∧ m ≤ n ∧ m ≤ c' ∧ Hid (b.length = m) ∧ Hid (wfB b = true) ∧ Hid (X ++ ZQ b = P) ∧ X.length + m ≤ n ∧ Hid (ByAt w.heap.size wr A' c' b) ∧ Hid (Col w.heap.size g bu ba n X wr) ∧ Hid (Below w.heap.size w wr))
 case atStart => exact ⟨A, c, n, l, [], rfl, Nat.le_refl _, Nat.le_refl _, by have := HA.out.le; have := HN.out; omega, HN, HW, HP, by simp, HA.out.below HB.out, HC, HB⟩
 case round =>
  obtain ⟨A', c', m, b, X, rfl, hgg, hmn, hmc, hbm, hbw, hXP, hXl, hbA, hXC, hB⟩ := hrel
  have I := IX.out A' c' m b hbm.out wr hbA.out
  have hge := Lib.indexByte_ge b 92
  by_cases hneg : Lib.indexByte b 92 = -1
  · have HPN := Hi (show X ++ b = P by rw [← hXP.out, idx_none hneg])
    rw [hneg] at I
    have I := Hi I
    have P1 := Hi (put_at w.heap.size g bu ba n X b _ A' c' m P.length hbm.out (by rw [← HPN.out, List.length_append, hbm.out]) hPl (by omega) wr hXC.out hbA.out)
    clear hneg hge IX
    go_wp2_with fail
    refine I.out.mono ?_
    rintro e w2 ⟨rfl, rfl⟩
    go_wp2_with fail
    refine P1.out.mono ?_
    rintro e w3 ⟨rfl, hC3, h3⟩
    rw [HPN.out] at hC3
    have hB3 := Hi (hB.out.trans h3)
    clear h3 P1 I
    go_wp2_with fail
    go_ret
    exact ⟨g, n, rfl, hC3.out.own (by omega), hB3.out⟩
  · obtain ⟨o, ho⟩ : ∃ o : Nat, Lib.indexByte b 92 = o := ⟨(Lib.indexByte b 92).toNat, by omega⟩
    obtain ⟨d, hol, hod, how, hoP⟩ := idx_some ho hbw.out
    rw [ho] at I
    have I := Hi I
    rw [hbm.out] at hol
    have hsl1 := fun W => slice_h A' m c' o (by omega) W
    have hsl2 : ∀ W : World, (Instr.slice 24 (.slice A' m c') (some (.int .i64 ((o : Int) + 2))) none none).run Tryz.prog W = .ok (.slice (offA A' c' (o + 2)) (m - (o + 2)) (c' - (o + 2))) W := fun W => by
     have := slice_l A' m c' (o + 2) (by omega) W
     rwa [Int.natCast_add] at this
    have HNX := Hi (show ((X ++ b.take o) ++ [d]) ++ ZQ (b.drop (o + 2)) = P by rw [← hXP.out, hoP]; simp)
    have hno : ¬ ((o : Int) < 0) := by omega
    have HOD := Hi hod
    have HOW := Hi how
    have P1 := Hi (put_at w.heap.size g bu ba n X (b.take o) _ A' c' o (X.length + o) (by rw [List.length_take, hbm.out]; omega) rfl (by omega) (by omega) wr hXC.out (hbA.out.take (hi := o) (by rw [hbm.out]; omega)))
    clear hneg hge IX ho hoP hod how
    go_wp2_with fail
    refine I.out.mono ?_
    rintro e w2 ⟨rfl, rfl⟩
    go_wp2_with fail
    refine P1.out.mono ?_
    rintro e w3 ⟨rfl, hC3, h3⟩
    have hB3 := Hi (hB.out.trans h3)
    have hA3 := Hi (hbA.out.below h3)
    obtain ⟨bb, off, he, _, _, hc⟩ := hA3.out.cell (j := o + 1) (by rw [hbm.out]; exact hol)
    rw [show b[o + 1]'(by rw [hbm.out]; exact hol) = d from (List.getElem?_eq_some_iff.1 HOD.out).2] at hc
    subst he
    have P2 := Hi (put_at w.heap.size g bu ba n (X ++ b.take o) [d] _ _ 1 1 (X.length + o + 1) rfl (by rw [List.length_append, List.length_take, hbm.out]; omega) (by omega) (by omega) _ (hC3.out.below (YB w3 (.cells #[.int .u8 (d.toNat : Int)] 5))) (byAt_val w3 d))
    clear h3 P1 I hC3
    go_wp2_with fail
    refine P2.out.mono ?_
    rintro e w4 ⟨rfl, hC4, h4⟩
    have hB4 := Hi ((hB3.out.alloc hB3.out.size (.cells #[.int .u8 (d.toNat : Int)] 5)).trans h4)
    have hA4 := Hi (((hA3.out.grow (YB w3 (.cells #[.int .u8 (d.toNat : Int)] 5))).below h4).drop (lo := o + 2) (by rw [hbm.out]; omega))
    clear h4 P2 hc
    go_wp2_with fail
    go_roundg (m - (o + 2))
    case measure => omega
    case rel => exact ⟨_, _, m - (o + 2), b.drop (o + 2), _, rfl, by omega, by omega, by omega, (show (b.drop (o + 2)).length = m - (o + 2) by rw [List.length_drop, hbm.out]), HOW, HNX, by rw [List.length_append, List.length_append, List.length_take, hbm.out, List.length_singleton]; omega, hA4, hC4, hB4⟩
theorem notText_any (n : Nat) (h : n ≤ 255) (w : World) :
 Calls Tryz.prog 226 #[.int .u8 n] w fun e w' => e = .returned (.bool (!textN n)) ∧ Below w.heap.size w w' := by
 have C := Hi (text_any n w h)
 go_enter Tryz.func226, Tryz.ntmps226
 go_wp2_with fail
 refine C.out.mono ?_
 rintro e w1 ⟨rfl, hb⟩
 go_wp2_with fail
 go_ret
 exact ⟨rfl, hb⟩
def IdxP (l : List UInt8) (e : Ending) : Prop := if allT l = true then e = .returned (.int .i64 (-1)) else ∃ k : Nat, e = .returned (.int .i64 k) ∧ k < l.length
theorem idxText_any (B : Nat) (A : Option Addr) (c : Nat) (l : List UInt8) (hl : l.length ≤ 1000000000) (w : World) (hA : ByAt B w A c l) :
 Calls Tryz.prog 235 #[.slice A l.length c, .func (Fn.func 226) #[] #[]] w fun e w' => IdxP l e ∧ Below w.heap.size w w' := by
 have NT := Hi (fun n h w1 => notText_any n h w1)
 have HA := Hi hA
 clear hA
 go_enter Tryz.func235, Tryz.ntmps235
 go_wp2_with fail
 go_loopw [8] (fun i wr => ∃ k : Nat, k ≤ l.length ∧ i = .int .i64 k ∧ Hid (allT (l.take k) = true) ∧ Below w.heap.size w wr) (fun i _ => l.length - (intOf i).toNat)
 case atStart => exact ⟨0, Nat.zero_le _, rfl, rfl, Below.refl _ _⟩
 case round =>
  obtain ⟨k, hk, rfl, ha, hb⟩ := hrel
  by_cases hlt : k < l.length
  · obtain ⟨b, off, rfl, _, _, hc⟩ := (HA.out.grow hb).cell hlt
    have hn : l[k].toNat ≤ 255 := by have := l[k].toNat_lt; omega
    have C := NT.out l[k].toNat hn wr
    cases ht : textN l[k].toNat with
    | true =>
      have HN := Hi (allT_snoc l k hlt ha.out ht)
      rw [ht] at C
      have C := Hi C
      clear ht
      go_wp2_with fail
      refine C.out.mono ?_
      rintro e w' ⟨rfl, hb2⟩
      go_wp2_with fail
      go_roundw
      case rel => exact ⟨k + 1, by omega, by go_num, HN.out, below_step hb hb2 hb.size⟩
      case measure => simp [intOf]; omega
    | false =>
      have HN := Hi (allT_false l k hlt ht)
      rw [ht] at C
      have C := Hi C
      clear ht
      go_wp2_with fail
      refine C.out.mono ?_
      rintro e w' ⟨rfl, hb2⟩
      go_wp2_with fail
      go_ret
      exact ⟨by unfold IdxP; rw [if_neg (by simp [HN.out])]; exact ⟨k, rfl, hlt⟩, below_step hb hb2 hb.size⟩
  · obtain rfl : k = l.length := by omega
    have HN := Hi (show allT l = true by have := ha.out; rwa [List.take_length] at this)
    go_wp2_with fail
    go_ret
    exact ⟨by unfold IdxP; rw [if_pos HN.out]; rfl, hb⟩
theorem contText_any (B : Nat) (A : Option Addr) (c : Nat) (l : List UInt8) (hl : l.length ≤ 1000000000) (w : World) (hA : ByAt B w A c l) :
 Calls Tryz.prog 225 #[.slice A l.length c, .func (Fn.func 226) #[] #[]] w fun e w' => e = .returned (.bool (!allT l)) ∧ Below w.heap.size w w' := by
 have C := Hi (idxText_any B A c l hl w hA)
 clear hA
 go_enter Tryz.func225, Tryz.ntmps225
 go_wp2_with fail
 refine C.out.mono ?_
 rintro e w1 ⟨hi, hb⟩
 unfold IdxP at hi
 cases ha : allT l with
 | true =>
   rw [if_pos ha] at hi
   subst hi
   have R := Hi ha
   clear ha
   go_wp2_with fail
   go_ret
   exact ⟨YU (by rw [R.out]; rfl), hb⟩
 | false =>
   rw [if_neg (by simp [ha])] at hi
   obtain ⟨k, rfl, _⟩ := hi
   have R := Hi ha
   clear ha
   go_wp2_with fail
   go_ret
   exact ⟨YU (by rw [R.out]; rfl), hb⟩
def annO (r : List UInt8) : Option (Nat × Nat) :=
 if r[0]? = some 123 then
  match QH (dgL (r.drop 1)) with
  | some n => if (r.drop 1)[(dgL (r.drop 1)).length]? = some 125 then some (n, (dgL (r.drop 1)).length + 2) else none
  | none => none
 else none
def APost (bs c : Nat) (A : Option Addr) (l : List UInt8) (k : Nat) (e : Ending) (w' : World) : Prop :=
 (∃ n j, annO (l.drop k) = some (n, j) ∧ n ≤ 4294967295 ∧ k + j ≤ l.length ∧ e = .returned (.tuple #[.int .u32 (n : Nat), .bool true]) ∧ Cur bs A c l ((k + j : Nat) : Int) w') ∨
 (annO (l.drop k) = none ∧ ∃ n : Nat, e = .returned (.tuple #[.int .u32 (n : Nat), .bool false]))
theorem mk_size (l : List UInt8) : (ByteArray.mk l.toArray).size = l.length := by show l.toArray.size = _; simp
theorem annF_no (bs c : Nat) (A : Option Addr) (l : List UInt8) (k : Nat) (hk : k ≤ l.length) (hm : l[k]? ≠ some 123) (hl : l.length ≤ 1000000000) (w : World) (h : Cur bs A c l (k : Int) w) :
 Calls Tryz.prog 173 #[.pointer (some ⟨bs, 0, none⟩)] w fun e w' => e = .returned (.tuple #[.int .u32 0, .bool false]) ∧ Below bs w w' := by
 have P := Hi (pass_f bs c A l k hk 123 hm hl w h)
 clear h hm
 go_enter Tryz.func173, Tryz.ntmps173
 go_wp2_with fail
 refine P.out.mono ?_
 rintro e w1 ⟨rfl, _, hb1⟩
 go_wp2_with fail
 go_ret2
 exact ⟨rfl, hb1⟩
theorem annF_out (bs c : Nat) (A : Option Addr) (l : List UInt8) (x : Int) (h1 : -9223372036854775808 ≤ x) (h2 : x ≤ 9223372036854775807) (hx : x < 0 ∨ (l.length : Int) < x) (hl : l.length ≤ 1000000000) (w : World) (h : Cur bs A c l x w) :
 Calls Tryz.prog 173 #[.pointer (some ⟨bs, 0, none⟩)] w fun e w' => e = .returned (.tuple #[.int .u32 0, .bool false]) ∧ Below bs w w' := by
 have P := Hi (pass_out bs c A l x h1 h2 hx 123 hl w h)
 clear h hx h1 h2
 go_enter Tryz.func173, Tryz.ntmps173
 go_wp2_with fail
 refine P.out.mono ?_
 rintro e w1 ⟨rfl, _, hb1⟩
 go_wp2_with fail
 go_ret2
 exact ⟨rfl, hb1⟩
theorem num_le {l : List UInt8} {u : Nat} (h : QH l = some u) : u ≤ 4294967295 := (numOf_some h).1
theorem annF_mark (bs c : Nat) (A : Option Addr) (l : List UInt8) (k : Nat) (hm : l[k]? = some 123) (hl : l.length ≤ 1000000000) (w : World) (henv : ∀ w1, Below bs w w1 → Env w1) (h : Cur bs A c l (k : Int) w) :
 Calls Tryz.prog 173 #[.pointer (some ⟨bs, 0, none⟩)] w fun e w' => APost bs c A l k e w' ∧ Below bs w w' := by
 have hk : k < l.length := (List.getElem?_eq_some_iff.1 hm).1
 have P := Hi (pass_t bs c A l k 123 hm hl w h)
 have DG := Hi (fun w1 (hc : Cur bs A c l ((k + 1 : Nat) : Int) w1) => digits_any bs c A l (k + 1) (by omega) hl w1 hc)
 have hd := dgL_le (l.drop (k + 1))
 rw [List.length_drop] at hd
 have NM := Hi (fun w1 (hb : Below bs w w1) => number_any ⟨(dgL (l.drop (k + 1))).toArray⟩ (by rw [mk_size]; omega) w1 (henv w1 hb))
 have HAO := Hi (show annO (l.drop k) = match QH (dgL (l.drop (k + 1))) with | some n => if l[k + 1 + (dgL (l.drop (k + 1))).length]? = some 125 then some (n, (dgL (l.drop (k + 1))).length + 2) else none | none => none by
  unfold annO
  rw [if_pos (by rw [drop_at]; exact hm), List.drop_drop, List.getElem?_drop])
 have PT := Hi (fun p hp w1 hc => pass_t bs c A l p 125 hp hl w1 hc)
 have PF := Hi (fun p hp hx w1 hc => pass_f bs c A l p hp 125 hx hl w1 hc)
 have hbs := h.lt
 clear h hm henv
 generalize dgL (l.drop (k + 1)) = D at *
 rw [show (ByteArray.mk D.toArray).data.toList = D from by simp] at NM
 cases ho : QH D with
 | none =>
   rw [ho] at NM HAO
   rw [show ((none : Option Nat).getD 0 : Nat) = 0 from rfl, show (none : Option Nat).isSome = false from rfl] at NM
   clear ho PT PF
   go_enter Tryz.func173, Tryz.ntmps173
   go_wp2_with fail
   refine P.out.mono ?_
   rintro e w1 ⟨rfl, hc1, hb1⟩
   have DG := Hi (DG.out w1 (hc1.out.cast (by omega)))
   clear P
   go_wp2_with fail
   refine DG.out.mono ?_
   rintro e w2 ⟨rfl, hc2, hb2⟩
   have hB2 := Hi (hb1.trans hb2)
   clear DG hb1 hb2
   go_wp2_with fail
   refine (NM.out _ hB2.out).mono ?_
   rintro e w3 ⟨rfl, hb3⟩
   have hB3 := Hi (hB2.out.trans (hb3.mono (Nat.le_of_lt hc2.out.lt)))
   clear hb3
   go_wp2_with fail
   go_ret2
   exact ⟨Or.inr ⟨HAO.out, 0, rfl⟩, hB3.out⟩
 | some n =>
   have hn := num_le ho
   rw [ho] at NM HAO
   rw [show ((some n).getD 0 : Nat) = n from rfl, show (some n).isSome = true from rfl] at NM
   clear ho
   by_cases h125 : l[k + 1 + D.length]? = some 125
   · have HAO := Hi (HAO.out.trans (if_pos h125))
     have PT := Hi (PT.out (k + 1 + D.length) h125)
     have hlt := (List.getElem?_eq_some_iff.1 h125).1
     clear h125 PF
     go_enter Tryz.func173, Tryz.ntmps173
     go_wp2_with fail
     refine P.out.mono ?_
     rintro e w1 ⟨rfl, hc1, hb1⟩
     have DG := Hi (DG.out w1 (hc1.out.cast (by omega)))
     clear P
     go_wp2_with fail
     refine DG.out.mono ?_
     rintro e w2 ⟨rfl, hc2, hb2⟩
     have hB2 := Hi (hb1.trans hb2)
     clear DG hb1 hb2
     go_wp2_with fail
     refine (NM.out _ hB2.out).mono ?_
     rintro e w3 ⟨rfl, hb3⟩
     have hB3 := Hi (hB2.out.trans (hb3.mono (Nat.le_of_lt hc2.out.lt)))
     have PT := Hi (PT.out w3 ((hc2.out.grow hb3).cast (by omega)))
     clear hb3
     go_wp2_with fail
     refine PT.out.mono ?_
     rintro e w4 ⟨rfl, hc4, hb4⟩
     have hB4 := Hi (hB3.out.trans hb4)
     clear hb4
     go_wp2_with fail
     go_ret2
     exact ⟨Or.inl ⟨n, D.length + 2, HAO.out, hn, by omega, rfl, hc4.out.cast (by omega)⟩, hB4.out⟩
   · have HAO := Hi (HAO.out.trans (if_neg h125))
     have PF := Hi (PF.out (k + 1 + D.length) (by omega) h125)
     clear h125 PT
     go_enter Tryz.func173, Tryz.ntmps173
     go_wp2_with fail
     refine P.out.mono ?_
     rintro e w1 ⟨rfl, hc1, hb1⟩
     have DG := Hi (DG.out w1 (hc1.out.cast (by omega)))
     clear P
     go_wp2_with fail
     refine DG.out.mono ?_
     rintro e w2 ⟨rfl, hc2, hb2⟩
     have hB2 := Hi (hb1.trans hb2)
     clear DG hb1 hb2
     go_wp2_with fail
     refine (NM.out _ hB2.out).mono ?_
     rintro e w3 ⟨rfl, hb3⟩
     have hB3 := Hi (hB2.out.trans (hb3.mono (Nat.le_of_lt hc2.out.lt)))
     have PF := Hi (PF.out w3 ((hc2.out.grow hb3).cast (by omega)))
     clear hb3
     go_wp2_with fail
     refine PF.out.mono ?_
     rintro e w4 ⟨rfl, hc4, hb4⟩
     have hB4 := Hi (hB3.out.trans hb4)
     clear hb4
     go_wp2_with fail
     go_ret2
     exact ⟨Or.inr ⟨HAO.out, n, rfl⟩, hB4.out⟩
def annX (l : List UInt8) (x : Int) : Option (Nat × Nat) := if 0 ≤ x then annO (l.drop x.toNat) else none
def AXPost (bs c : Nat) (A : Option Addr) (l : List UInt8) (x : Int) (e : Ending) (w' : World) : Prop :=
 (∃ (n j k : Nat), x = k ∧ annX l x = some (n, j) ∧ n ≤ 4294967295 ∧ k + j ≤ l.length ∧ e = .returned (.tuple #[.int .u32 (n : Nat), .bool true]) ∧ Cur bs A c l ((k + j : Nat) : Int) w') ∨
 (annX l x = none ∧ ∃ n : Nat, e = .returned (.tuple #[.int .u32 (n : Nat), .bool false]))
theorem annO_no {l : List UInt8} {k : Nat} (h : l[k]? ≠ some 123) : annO (l.drop k) = none := by
 unfold annO
 rw [if_neg (by rw [drop_at]; exact h)]
theorem annF_any (bs c : Nat) (A : Option Addr) (l : List UInt8) (x : Int) (h1 : -9223372036854775808 ≤ x) (h2 : x ≤ 9223372036854775807) (hl : l.length ≤ 1000000000) (w : World) (henv : ∀ w1, Below bs w w1 → Env w1) (h : Cur bs A c l x w) :
 Calls Tryz.prog 173 #[.pointer (some ⟨bs, 0, none⟩)] w fun e w' => AXPost bs c A l x e w' ∧ Below bs w w' := by
 by_cases hin : 0 ≤ x ∧ x ≤ l.length
 · obtain ⟨k, rfl⟩ : ∃ k : Nat, x = k := ⟨x.toNat, by omega⟩
   have e0 : annX l (k : Int) = annO (l.drop k) := by unfold annX; rw [if_pos (by omega)]; rfl
   by_cases hm : l[k]? = some 123
   · refine (annF_mark bs c A l k hm hl w henv h).mono fun e w' ⟨ha, hb⟩ => ⟨?_, hb⟩
     unfold AXPost
     rw [e0]
     rcases ha with ⟨n, j, a1, a2, a3, a4, a5⟩ | ⟨a1, n, a2⟩
     · exact Or.inl ⟨n, j, k, rfl, a1, a2, a3, a4, a5⟩
     · exact Or.inr ⟨a1, n, a2⟩
   · refine (annF_no bs c A l k (by omega) hm hl w h).mono fun e w' ⟨ha, hb⟩ => ⟨Or.inr ⟨?_, 0, ha⟩, hb⟩
     rw [e0]; exact annO_no hm
 · have hx : x < 0 ∨ (l.length : Int) < x := by omega
   refine (annF_out bs c A l x h1 h2 hx hl w h).mono fun e w' ⟨ha, hb⟩ => ⟨Or.inr ⟨?_, 0, ha⟩, hb⟩
   unfold annX
   by_cases h0 : 0 ≤ x
   · rw [if_pos h0]
     exact annO_no (by rw [List.getElem?_eq_none (by omega)]; simp)
   · rw [if_neg h0]
section
open Go.Lib hiding intOf
def AnnL (l : List UInt8) (n : Nat) : Prop := n ≤ 4294967295 ∧ ∃ pre, l = pre ++ 123 :: (decDigits n ++ [125])
def IsAnn (l : List UInt8) : Option Nat → Prop
 | some n => AnnL l n
 | none => ∀ n, ¬ AnnL l n
theorem dec_dig (n : Nat) : ∀ c ∈ decDigits n, QC c = true := fun c hc => List.all_eq_true.1 (dec_facts n).1 c hc
theorem takeWhile_front (a : List UInt8) (x : UInt8) (b : List UInt8) (ha : ∀ c ∈ a, QC c = true) (hx : QC x = false) : (a ++ x :: b).takeWhile QC = a := by
 induction a with
 | nil => simp [hx]
 | cons c a ih => rw [List.cons_append, List.takeWhile_cons, if_pos (ha c (by simp)), ih (fun d hd => ha d (by simp [hd]))]
theorem annL_inj {l : List UInt8} {n m : Nat} (h1 : AnnL l n) (h2 : AnnL l m) : n = m := by
 obtain ⟨hn, p1, e1⟩ := h1
 obtain ⟨hm, p2, e2⟩ := h2
 have e : (p1 ++ 123 :: (decDigits n ++ [125])).reverse = (p2 ++ 123 :: (decDigits m ++ [125])).reverse := by rw [← e1, ← e2]
 simp only [List.reverse_append, List.reverse_cons, List.reverse_nil, List.nil_append, List.append_assoc, List.cons_append] at e
 injection e with _ e
 have t := congrArg (List.takeWhile QC) e
 rw [takeWhile_front _ _ _ (fun c hc => dec_dig n c (List.mem_reverse.1 hc)) (by decide), takeWhile_front _ _ _ (fun c hc => dec_dig m c (List.mem_reverse.1 hc)) (by decide)] at t
 have t2 := congrArg List.reverse t
 rw [List.reverse_reverse, List.reverse_reverse] at t2
 have a := numOf_dec hn
 rw [t2, numOf_dec hm] at a
 exact (Option.some.inj a).symm
theorem isAnn_eq {l : List UInt8} {a b : Option Nat} (h1 : IsAnn l a) (h2 : IsAnn l b) : a = b := by
 cases a with
 | none =>
   cases b with
   | none => rfl
   | some m => exact absurd h2 (h1 m)
 | some n =>
   cases b with
   | none => exact absurd h1 (h2 n)
   | some m => rw [annL_inj h1 h2]
theorem isAnn_le {l : List UInt8} {n : Nat} (h : IsAnn l (some n)) : n ≤ 4294967295 := h.1
def LastP (l : List UInt8) (x : Int) : Prop := (x = -1 ∧ ∀ j : Nat, l[j]? ≠ some 123) ∨ ∃ k : Nat, x = k ∧ l[k]? = some 123 ∧ ∀ j : Nat, k < j → l[j]? ≠ some 123
theorem ann_at {l : List UInt8} {n : Nat} (h : AnnL l n) {x : Int} (hx : LastP l x) : ∃ k : Nat, x = k ∧ annO (l.drop k) = some (n, (decDigits n).length + 2) ∧ k + ((decDigits n).length + 2) = l.length := by
 obtain ⟨hn, pre, rfl⟩ := h
 have h123 : (pre ++ 123 :: (decDigits n ++ [125]))[pre.length]? = some 123 := by simp
 have hno : ∀ j, pre.length < j → (pre ++ 123 :: (decDigits n ++ [125]))[j]? ≠ some 123 := fun j hj => by
  rw [List.getElem?_append_right (by omega)]
  obtain ⟨i, hi⟩ : ∃ i, j - pre.length = i + 1 := ⟨j - pre.length - 1, by omega⟩
  rw [hi, List.getElem?_cons_succ]
  intro e
  have hm : (123 : UInt8) ∈ decDigits n ++ [125] := List.mem_of_getElem? e
  rw [List.mem_append] at hm
  rcases hm with hm | hm
  · have := dec_dig n _ hm
    revert this; decide
  · simp at hm
 have hk : x = pre.length := by
  rcases hx with ⟨_, h0⟩ | ⟨k, rfl, h1, h2⟩
  · exact absurd h123 (h0 _)
  · rcases Nat.lt_trichotomy k pre.length with hlt | heq | hgt
    · exact absurd h123 (h2 _ hlt)
    · rw [heq]
    · exact absurd h1 (hno _ hgt)
 refine ⟨pre.length, hk, ?_, by simp⟩
 rw [List.drop_left]
 unfold annO
 rw [if_pos (by simp)]
 have e1 : (123 :: (decDigits n ++ [125]) : List UInt8).drop 1 = decDigits n ++ 125 :: [] := rfl
 have e2 : dgL (decDigits n ++ 125 :: []) = decDigits n := takeWhile_front _ _ _ (dec_dig n) (by decide)
 rw [e1, e2, numOf_dec hn]
 simp
theorem ann_of {l : List UInt8} {k n j : Nat} (h : annO (l.drop k) = some (n, j)) (hj : k + j = l.length) : AnnL l n := by
 unfold annO at h
 split at h
 · rename_i h0
   split at h
   · rename_i m hm
     split at h
     · rename_i h125
       simp only [Option.some.injEq, Prod.mk.injEq] at h
       obtain ⟨rfl, rfl⟩ := h
       obtain ⟨hle, hd⟩ := numOf_some hm
       refine ⟨hle, l.take k, ?_⟩
       rw [hd]
       have hk : k < l.length := by omega
       have e0 : l.drop k = 123 :: l.drop (k + 1) := by
        rw [drop_at] at h0
        obtain ⟨_, he⟩ := List.getElem?_eq_some_iff.1 h0
        rw [List.drop_eq_getElem_cons hk, he]
       have e1 : (l.drop k).drop 1 = l.drop (k + 1) := by rw [List.drop_drop]
       rw [e1] at hm h125 hj hd ⊢
       have hpre : dgL (l.drop (k + 1)) <+: l.drop (k + 1) := List.takeWhile_prefix _
       obtain ⟨t, ht⟩ := hpre
       generalize dgL (l.drop (k + 1)) = D at *
       have htl : t.length = 1 := by
        have := congrArg List.length ht
        rw [List.length_append, List.length_drop] at this
        omega
       obtain ⟨y, rfl⟩ : ∃ y, t = [y] := by
        match t, htl with
        | [y], _ => exact ⟨y, rfl⟩
       have hy : y = 125 := by
        rw [← ht] at h125
        simpa using h125
       subst hy
       rw [ht]
       conv => lhs; rw [← List.take_append_drop k l, e0]
     · cases h
   · cases h
 · cases h
theorem ann_last {l : List UInt8} {m n : Nat} (h : AnnL l n) (hlen : l.length = m + 1) : l[m]? = some 125 := by
 obtain ⟨_, pre, rfl⟩ := h
 have e : pre ++ 123 :: (decDigits n ++ [125]) = (pre ++ 123 :: decDigits n) ++ [125] := by simp
 rw [e] at hlen ⊢
 rw [List.length_append, List.length_singleton] at hlen
 rw [List.getElem?_append_right (by omega), show m - (pre ++ 123 :: decDigits n).length = 0 by omega]
 rfl
end
theorem last_step {l : List UInt8} {p : Nat} (h : ∀ j : Nat, p + 1 ≤ j → l[j]? ≠ some 123) (hp : l[p]? ≠ some 123) : ∀ j : Nat, p ≤ j → l[j]? ≠ some 123 := fun j hj => by
 rcases Nat.eq_or_lt_of_le hj with rfl | hlt
 · exact hp
 · exact h j hlt
theorem lastB_any (B c : Nat) (A : Option Addr) (l : List UInt8) (hl : l.length ≤ 1000000000) (w : World) (hA : ByAt B w A c l) :
 Calls Tryz.prog 196 #[.slice A l.length c, .int .u8 123] w fun e w' => (∃ x : Int, e = .returned (.int .i64 x) ∧ Hid (LastP l x)) ∧ w = w' := by
 have HA := Hi hA
 clear hA
 go_enter Tryz.func196, Tryz.ntmps196
 go_wp2_with fail
 go_loop [5] (fun i => ∃ k : Nat, k ≤ l.length ∧ i = .int .i64 ((k : Int) - 1) ∧ Hid (∀ j : Nat, k ≤ j → l[j]? ≠ some 123)) (fun i => (intOf i + 1).toNat)
 case atStart => exact ⟨l.length, Nat.le_refl _, rfl, fun j hj => by rw [List.getElem?_eq_none hj]; simp⟩
 case round =>
  obtain ⟨k, hk, rfl, hJ⟩ := hrel
  cases k with
  | zero =>
    have HL := Hi (show LastP l (-1) from Or.inl ⟨rfl, fun j => hJ.out j (Nat.zero_le _)⟩)
    clear hJ
    go_wp2_with fail
    go_ret
    exact ⟨⟨_, rfl, HL.out⟩, rfl⟩
  | succ p =>
    rw [show (((p + 1 : Nat) : Int) - 1) = (p : Int) by omega]
    obtain ⟨b, off, rfl, _, _, hc⟩ := HA.out.cell (j := p) (by omega)
    have hlt : p < l.length := by omega
    by_cases h : l[p]? = some 123
    · have HL := Hi (show LastP l (p : Int) from Or.inr ⟨p, rfl, h, fun j hj => hJ.out j hj⟩)
      have hx : l[p] = 123 := (List.getElem?_eq_some_iff.1 h).2
      rw [hx] at hc
      have hc' : w.cell? ⟨b, off + p, none⟩ = some (.int .u8 123) := hc
      clear hJ h hx hc
      go_wp2_with fail
      go_ret
      exact ⟨⟨_, rfl, HL.out⟩, rfl⟩
    · have HN := Hi (last_step hJ.out h)
      have hne : ((l[p].toNat : Int) == 123) = false := by
       rw [beq_eq_false_iff_ne]
       intro e
       apply h
       rw [List.getElem?_eq_getElem hlt]
       congr 1
       apply UInt8.toNat_inj.1
       show l[p].toNat = 123
       omega
      clear hJ h
      generalize l[p].toNat = x at *
      go_wp2_with fail
      go_round
      case rel => exact ⟨p, by omega, rfl, HN.out⟩
      case measure => simp [intOf]
theorem lastI_any (B c : Nat) (A : Option Addr) (l : List UInt8) (hl : l.length ≤ 1000000000) (w : World) (hA : ByAt B w A c l) :
 Calls Tryz.prog 172 #[.slice A l.length c, .int .u8 123] w fun e w' => (∃ x : Int, e = .returned (.int .i64 x) ∧ Hid (LastP l x)) ∧ w = w' := by
 have C := Hi (lastB_any B c A l hl w hA)
 clear hA
 go_enter Tryz.func172, Tryz.ntmps172
 go_wp2_with fail
 refine C.out.mono ?_
 rintro e w1 ⟨⟨x, rfl, hx⟩, rfl⟩
 go_wp2_with fail
 go_ret
 exact ⟨⟨_, rfl, hx⟩, rfl⟩
theorem lastP_bd {l : List UInt8} {x : Int} (h : LastP l x) : -1 ≤ x ∧ x ≤ l.length := by
 rcases h with ⟨rfl, _⟩ | ⟨k, rfl, h1, _⟩
 · omega
 · have := (List.getElem?_eq_some_iff.1 h1).1
   omega
theorem annX_nat {l : List UInt8} {k : Nat} : annX l (k : Int) = annO (l.drop k) := by
 unfold annX
 rw [if_pos (by omega)]
 rfl
def AnnPost (l : List UInt8) (e : Ending) : Prop := ∃ o : Option Nat, IsAnn l o ∧ e = .returned (.tuple #[.int .i64 ((o.getD 0 : Nat) : Int), .bool o.isSome])
theorem announced_any (B c : Nat) (A : Option Addr) (l : List UInt8) (hl : l.length ≤ 1000000) (w : World) (henv : Env w) (hA : ByAt B w A c l) :
 Calls Tryz.prog 132 #[.slice A l.length c] w fun e w' => AnnPost l e ∧ Below w.heap.size w w' := by
 have LI := Hi (lastI_any B c A l (by omega) w hA)
 have AN := Hi (fun x h1 h2 => annF_any w.heap.size c A l x h1 h2 (by omega) _ (fun w1 hb => henv.below ((YB w (.cells #[.slice A l.length c, .int .i64 x] 193)).trans hb)) (cur_new hA x))
 clear henv hA
 go_enter Tryz.func132, Tryz.ntmps132
 go_wp2_with fail
 refine LI.out.mono ?_
 rintro e w1 ⟨⟨x, rfl, hx⟩, rfl⟩
 have hbd := lastP_bd hx.out
 have AN := Hi (AN.out x (by omega) (by omega))
 clear LI
 go_wp2_with fail
 refine AN.out.mono ?_
 rintro e w2 ⟨ha, hb⟩
 have HB := Hi ((YB w (.cells #[.slice A l.length c, .int .i64 x] 193)).trans hb)
 unfold AXPost at ha
 rcases ha with ⟨n, j, k, rfl, ha, hn, hkj, rfl, hc⟩ | ⟨ha, n, rfl⟩
 · have c1 := hc.c1
   rw [annX_nat] at ha
   by_cases hend : k + j = l.length
   · have HR := Hi (show IsAnn l (some n) from ann_of ha hend)
     have e1 : decide (k + j < l.length) = false := by simp; omega
     have e2 : decide (((k + j : Nat) : Int) < (l.length : Int)) = false := by simp; omega
     clear ha AN hc hend hb hx
     generalize k + j = m at *
     go_wp2_with fail
     go_ret2
     exact ⟨⟨some n, HR.out, rfl⟩, HB.out⟩
   · have HR := Hi (show IsAnn l none from fun m hm => by
      obtain ⟨k', hk', h1, h2⟩ := ann_at hm hx.out
      have : k' = k := by omega
      subst this
      rw [ha] at h1
      simp only [Option.some.injEq, Prod.mk.injEq] at h1
      omega)
     have e1 : decide (k + j < l.length) = true := by simp; omega
     have e2 : decide (((k + j : Nat) : Int) < (l.length : Int)) = true := by simp; omega
     clear ha AN hc hend hb hx
     generalize k + j = m at *
     go_wp2_with fail
     go_ret2
     exact ⟨⟨none, HR.out, rfl⟩, HB.out⟩
 · have HR := Hi (show IsAnn l none from fun m hm => by
    obtain ⟨k', hk', h1, h2⟩ := ann_at hm hx.out
    subst hk'
    rw [annX_nat, h1] at ha
    cases ha)
   clear ha AN hb hx
   go_wp2_with fail
   go_ret2
   exact ⟨⟨none, HR.out, rfl⟩, HB.out⟩
end Go.Proofs.YtpgfnlhfciacoaaGreatDoor
