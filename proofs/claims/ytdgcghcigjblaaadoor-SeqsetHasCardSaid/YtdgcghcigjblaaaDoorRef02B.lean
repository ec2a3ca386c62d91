/- The reference of layer 2: Print, Numbers. -/
import Derived.Test.YtdgcghcigjblaaaDoorRef02A
import Derived.Test.YtdgcghcigjblaaaDoorPrintL
import Derived.Test.YtdgcghcigjblaaaDoorSeqNums
import Derived.Deep.QuietTactic
import Derived.BigQuiet
namespace Go.Proofs.YtdgcghcigjblaaaDoor
open Go.RowKit Go.Shelf

theorem below_drewM {B : Nat} {a w : World} (h : Below B a w) (n : Nat) : Below B a (w.drewN n) := ⟨h.os, h.tape, h.output, h.size, h.block⟩

set_option maxRecDepth 100000 in
set_option maxHeartbeats 2000000 in
theorem refPrint_any (A : Option Addr) (c : Nat) (l : List R) (hn : l.length ≤ 1000000000) (hb : ∀ r ∈ l, r.1 ≤ 4294967295 ∧ r.2 ≤ 4294967295) (w : World) (hS : SlAt encR 2 w A l) :
    Calls Tryd.prog 11 #[.slice A l.length c] w fun e w' => e = .returned (.string ⟨(printL l).toArray⟩) ∧ Below w.heap.size w w' := by
  have HS := Lib.hid hS
  have HBd := Lib.hid hb
  clear hS hb
  go_enter Tryd.func11, Tryd.ntmps11
  go_wp2_with fail
  go_loopw [3, 4] (fun s i wr => ∃ (k : Nat) (t : ByteArray), k ≤ l.length ∧ i = .int .i64 k ∧ s = .string t ∧ Hid (t.data.toList = printL (l.take k)) ∧ t.size ≤ 22 * k ∧ Below w.heap.size w wr)
    (fun _ i _ => l.length - (intOf i).toNat)
  case atStart => exact ⟨0, ⟨#[]⟩, Nat.zero_le _, rfl, rfl, rfl, by simp [ByteArray.size], Below.refl _ _⟩
  case round =>
    obtain ⟨k, t, hk, rfl, rfl, ht, hts, hB⟩ := hrel
    by_cases hlt : k < l.length
    · obtain ⟨b, off, rfl, hbl, hc0, hc1⟩ := (HS.out.below hB).pair hlt
      have hbr := HBd.out l[k] (List.getElem_mem _)
      have HT := Lib.hid (printL_take l k hlt)
      clear HBd HS
      generalize l[k] = r at *
      generalize hP : printL (l.take k) = P at *
      clear hP
      obtain ⟨lo, hi⟩ := r
      dsimp only at hc0 hc1 hbr
      have hs1 := (formN_len hbr.1).1
      have hs2 := (formN_len hbr.2).1
      have F1 := fun w1 => Lib.hid (refForm_any lo hbr.1 w1)
      have F2 := fun w1 => Lib.hid (refForm_any hi hbr.2 w1)
      have HF := Lib.hid (show formR (lo, hi) = if lo = hi then formN lo else formN lo ++ 58 :: formN hi from rfl)
      generalize formR (lo, hi) = f at *
      have m1 : (ByteArray.mk (formN lo).toArray).size ≤ 10 := by simpa [ByteArray.size] using hs1
      have m2 : (ByteArray.mk (formN hi).toArray).size ≤ 10 := by simpa [ByteArray.size] using hs2
      have G1 := Lib.hid (show (ByteArray.mk (formN lo).toArray).data.toList = formN lo from rfl)
      have G2 := Lib.hid (show (ByteArray.mk (formN hi).toArray).data.toList = formN hi from rfl)
      clear hs1 hs2
      generalize ByteArray.mk (formN lo).toArray = s1 at *
      generalize ByteArray.mk (formN hi).toArray = s2 at *
      have z1 : (ByteArray.mk #[44]).size = 1 := rfl
      have z2 : (ByteArray.mk #[58]).size = 1 := rfl
      have Z1 := Lib.hid z1
      have Z2 := Lib.hid z2
      clear z1 z2
      by_cases h0 : 0 < k
      · by_cases he : lo = hi
        · subst he
          go_wp2_with fail
          refine (F1 _).out.mono ?_
          rintro e w1 ⟨rfl, rfl⟩
          go_wp2_with fail
          go_quiet (fail)
          go_wp2_with fail
          go_roundw
          case rel => exact ⟨k + 1, t ++ ⟨#[44]⟩ ++ s1, by omega, by go_num, rfl, Lib.hid (by rw [HT.out, HF.out, if_pos h0, if_pos trivial, ← ht.out, ← G1.out]; simp), by simp only [ByteArray.size_append, Z1.out]; omega, below_drewM hB _⟩
          case measure => simp [intOf]; omega
        · go_wp2_with fail
          refine (F1 _).out.mono ?_
          rintro e w1 ⟨rfl, rfl⟩
          go_wp2_with fail
          go_quiet (fail)
          go_wp2_with fail
          refine (F2 _).out.mono ?_
          rintro e w1 ⟨rfl, rfl⟩
          go_wp2_with fail
          go_roundw
          case rel => exact ⟨k + 1, t ++ ⟨#[44]⟩ ++ s1 ++ ⟨#[58]⟩ ++ s2, by omega, by go_num, rfl, Lib.hid (by rw [HT.out, HF.out, if_pos h0, if_neg he, ← ht.out, ← G1.out, ← G2.out]; simp), by simp only [ByteArray.size_append, Z1.out, Z2.out]; omega, below_drewM hB _⟩
          case measure => simp [intOf]; omega
      · by_cases he : lo = hi
        · subst he
          go_wp2_with fail
          refine (F1 _).out.mono ?_
          rintro e w1 ⟨rfl, rfl⟩
          go_wp2_with fail
          go_quiet (fail)
          go_wp2_with fail
          go_roundw
          case rel => exact ⟨k + 1, t ++ s1, by omega, by go_num, rfl, Lib.hid (by rw [HT.out, HF.out, if_neg h0, if_pos trivial, ← ht.out, ← G1.out]; simp), by simp only [ByteArray.size_append]; omega, below_drewM hB _⟩
          case measure => simp [intOf]; omega
        · go_wp2_with fail
          refine (F1 _).out.mono ?_
          rintro e w1 ⟨rfl, rfl⟩
          go_wp2_with fail
          go_quiet (fail)
          go_wp2_with fail
          refine (F2 _).out.mono ?_
          rintro e w1 ⟨rfl, rfl⟩
          go_wp2_with fail
          go_roundw
          case rel => exact ⟨k + 1, t ++ s1 ++ ⟨#[58]⟩ ++ s2, by omega, by go_num, rfl, Lib.hid (by rw [HT.out, HF.out, if_neg h0, if_neg he, ← ht.out, ← G1.out, ← G2.out]; simp), by simp only [ByteArray.size_append, Z2.out]; omega, below_drewM hB _⟩
          case measure => simp [intOf]; omega
    · obtain rfl : k = l.length := by omega
      rw [List.take_length] at ht
      clear HS HBd
      have hR : Value.string t = .string ⟨(printL l).toArray⟩ := by
        congr 1
        apply ByteArray.ext
        apply Array.toList_inj.1
        rw [ht.out]
      have HR := Lib.hid hR
      clear hR ht
      go_wp2_with fail
      go_ret
      exact ⟨by rw [← HR.out]; rfl, hB⟩

theorem numsL_step (top : Nat) (l : List R) (k : Nat) : ((List.range (k + 1)).map (· + 1)).filter (fun n => hasL top n l) = ((List.range k).map (· + 1)).filter (fun n => hasL top n l) ++ (if hasL top (k + 1) l = true then [k + 1] else []) := by
  rw [List.range_succ, List.map_append, List.filter_append]
  cases hx : hasL top (k + 1) l <;> simp [hx]
/-- The numbers up to k. -/
def numsK (top : Nat) (l : List R) (k : Nat) : List Nat := ((List.range k).map (· + 1)).filter (fun n => hasL top n l)
theorem numsK_len (top : Nat) (l : List R) (k : Nat) : (numsK top l k).length ≤ k := by
  unfold numsK
  exact Nat.le_trans (List.length_filter_le _ _) (by simp)

set_option maxRecDepth 100000 in
set_option maxHeartbeats 2000000 in
theorem refNumbers_any (top : Nat) (htop : top ≤ 1000000000) (A : Option Addr) (c : Nat) (l : List R) (hn : l.length ≤ 1000000000) (w : World) (hS : SlAt encR 2 w A l) :
    Calls Tryd.prog 17 #[.int .u32 top, .slice A l.length c] w fun e w' => ∃ v, e = .returned v ∧ w'.ownsRow w.heap.size 30 1 v (numsL top l).length ((numsL top l).map fun (n : Nat) => Value.int .u32 (n : Int)) ∧ Below w.heap.size w w' := by
  obtain ⟨i0, hi, hz0, hz1, hz2⟩ := info_parts infoU
  have HS := Lib.hid hS
  clear hS
  go_enter Tryd.func17, Tryd.ntmps17
  go_wp2_with fail
  go_loopw [5, 6] (fun v i wr => ∃ k : Nat, k ≤ top ∧ i = .int .u32 ((k + 1 : Nat) : Int) ∧ wr.ownsRow w.heap.size 30 1 v (numsK top l k).length ((numsK top l k).map fun (n : Nat) => Value.int .u32 (n : Int)) ∧ Below w.heap.size w wr)
    (fun _ i _ => top + 1 - (intOf i).toNat)
  case atStart => exact ⟨0, Nat.zero_le _, rfl, World.ownsRow_nil _ _ _ _, Below.refl _ _⟩
  case round =>
    obtain ⟨k, hk, rfl, hrow, hB⟩ := hrel
    obtain ⟨n, hn'⟩ : ∃ n, n = k + 1 := ⟨_, rfl⟩
    have hle := numsK_len top l k
    have HN := Lib.hid (numsL_step top l k)
    have HK := Lib.hid hn'
    rw [← hn']
    have hkn : k < n := by omega
    have hnk : n ≤ k + 1 := by omega
    clear hn'
    by_cases hlt : n ≤ top
    · have HH := Lib.hid (refHas_any top n A c l hn wr (HS.out.below hB))
      have HST : ∀ b, hasL top n l = b → Hid (numsK top l (k + 1) = numsK top l k ++ if b = true then [n] else []) := fun b hb => Lib.hid (by
        unfold numsK
        rw [HN.out, ← HK.out, hb])
      clear HN HS
      generalize hq : numsK top l k = Q at *
      clear hq
      cases hb : hasL top n l with
      | true =>
        rw [hb] at HH
        have HST := HST _ hb
        clear hb
        obtain ⟨A', c', rfl⟩ := own_any hrow
        have hBs := hB.size
        go_wp2_with fail
        refine HH.out.mono ?_
        rintro e w1 ⟨rfl, rfl⟩
        clear HH
        go_wp2_with (at_builtin; refine wpList_append_own _ rfl _ _ 37 rfl w.heap.size 30 i0 _ 1 4 Tryd.underlying37 hi hz0 hz1 hz2 rfl (by decide) _ _ _ rfl (hrow.alloc _) ⟨wr.heap.size, 0, none⟩ 1 1 [.int .u32 (n : Int)] rfl rfl (cell_one_new _ _ _) (by intro u hu; simp at hu; subst hu; rfl) (by unfold maxLen; omega) (by omega) (by simp; omega) ?_; intro v' wz hown' hgrow _)
        have hbz := (hB.alloc hBs (.cells #[.int .u32 (n : Int)] 30)).grown hgrow (by simp; omega) (fun k hk => (hrow.lt k hk).1)
        have HO' := Lib.hid hown'
        clear hown' hgrow hrow
        go_wp2
        go_roundw
        case rel => exact ⟨k + 1, by omega, by rw [← HK.out]; go_num, by rw [HST.out, if_pos trivial]; simpa using HO'.out, hbz⟩
        case measure => simp [intOf]; omega
      | false =>
        rw [hb] at HH
        have HST := HST _ hb
        have HO' := Lib.hid hrow
        clear hb hrow
        go_wp2_with fail
        refine HH.out.mono ?_
        rintro e w1 ⟨rfl, rfl⟩
        clear HH
        go_wp2
        go_roundw
        case rel => exact ⟨k + 1, by omega, by rw [← HK.out]; go_num, by rw [HST.out, if_neg (by simp), List.append_nil]; exact HO'.out, hB⟩
        case measure => simp [intOf]; omega
    · have hkt : k = top := by omega
      have HR : Hid (numsK top l k = numsL top l) := Lib.hid (by rw [hkt]; rfl)
      have HO' := Lib.hid hrow
      clear hrow HN HK HS hkt
      obtain ⟨A', c', hv⟩ := own_any HO'.out
      subst hv
      go_wp2
      go_ret
      exact ⟨_, rfl, by rw [← HR.out]; exact HO'.out, hB⟩
end Go.Proofs.YtdgcghcigjblaaaDoor
