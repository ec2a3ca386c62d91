/- The reference's Quoted, Literal, Best. -/
import Derived.Test.YtpgfnlhfciacoaaGreatDoorGa
import Derived.Test.YtpgfnlhfciacoaaGreatDoorGb
import Derived.Test.YtpgfnlhfciacoaaGreatDoorGy
import Derived.Test.YtpgfnlhfciacoaaGreatDoorGq
import Derived.Deep.QuietTactic
import Derived.BigQuiet
import Derived.Test.YtpgfnlhfciacoaaGreatDoorGw
import Derived.Test.YtpgfnlhfciacoaaGreatDoorKa
namespace Go.Proofs.YtpgfnlhfciacoaaGreatDoor
open Go.RowKit
open Go.Lib hiding intOf

theorem cat_mk (a b : List UInt8) : ByteArray.mk a.toArray ++ ByteArray.mk b.toArray = ⟨(a ++ b).toArray⟩ := by
  apply ByteArray.ext
  simp

/-- The reference's string after one byte more. -/
theorem ref_sp (X : List UInt8) (x : UInt8) : ByteArray.mk X.toArray ++ ByteArray.mk #[92] ++ ByteArray.mk #[x] = ⟨(X ++ [92, x]).toArray⟩ := by
  have := cat_mk (X ++ [92]) [x]
  rw [← cat_mk X [92]] at this
  rw [this]
  simp

theorem ref_next {X l E : List UInt8} {k : Nat} {x : UInt8} (hX : X = 34 :: escL (l.take k)) (hE : escL (l.take (k + 1)) = escL (l.take k) ++ escC x) (hs : escC x = E) : X ++ E = 34 :: escL (l.take (k + 1)) := by
  rw [hX, hE, hs]; rfl
theorem ref_end {X l : List UInt8} (hX : X = 34 :: escL (l.take l.length)) : X ++ [34] = quotedL l := by
  rw [hX, List.take_length]; rfl

set_option maxRecDepth 100000 in
set_option maxHeartbeats 2000000 in
theorem refQuoted_go (q : List UInt8) (t : Bool) (B : Nat) (A : Option Addr) (c : Nat) (l : List UInt8) (hl : l.length ≤ 1000000) (w : World) (hA : ByAt B w A c l) (hq : Hid (t = allT l ∧ q = if allT l = true then quotedL l else [])) :
    Calls Tryz.prog 128 #[.slice A l.length c] w fun e w' => e = .returned (.tuple #[.string ⟨q.toArray⟩, .bool t]) ∧ w = w' := by
  have HA := Lib.hid hA
  have hle := hA.le
  have RT := Lib.hid (fun n h w1 => refText_any n w1 h)
  clear hA
  go_enter Tryz.func128, Tryz.ntmps128
  have hse := fun x lo hi mx W => sliceAt_eq x lo hi mx W
  go_wp2_with fail
  go_loop [4, 5] (fun o i => ∃ (k : Nat) (X : List UInt8), k ≤ l.length ∧ i = .int .i64 (k : Int) ∧ o = .string ⟨X.toArray⟩ ∧ Hid (X = 34 :: escL (l.take k)) ∧ Hid (allT (l.take k) = true)) (fun _ i => l.length - (intOf i).toNat)
  case atStart => exact ⟨0, [34], Nat.zero_le _, rfl, rfl, rfl, rfl⟩
  case round =>
    obtain ⟨k, X, hk, rfl, rfl, hX, hT⟩ := hrel
    have hXl : X.length ≤ 3000000 := by
      have h1 := congrArg List.length hX.out
      have h2 := escL_len (l.take k)
      rw [List.length_cons] at h1
      rw [List.length_take] at h2
      omega
    by_cases hlt : k < l.length
    · obtain ⟨b, off, rfl, _, _, hc⟩ := HA.out.cell hlt
      have hsl : (Instr.slice 24 (.slice (some ⟨b, off, none⟩) l.length c) (some (.int .i64 (k : Int))) (some (.int .i64 ((k : Int) + 1))) none).run Tryz.prog w = .ok (.slice (offA (some ⟨b, off, none⟩) c k) 1 (c - k)) w := by
        have := slice_lh (some ⟨b, off, none⟩) l.length c k (k + 1) (by omega) (by omega) w
        rwa [Int.natCast_add, Nat.add_sub_cancel_left] at this
      have hcut : (l.take (k + 1)).drop k = [l[k]] := by
        rw [List.take_succ_eq_append_getElem hlt, List.drop_append_of_le_length (by simp; omega)]
        simp
      have hcv := convS _ w _ (c - k) 1 _ (HA.out.cut (lo := k) (hi := k + 1) (by omega) (by omega)) (by rw [hcut]; rfl)
      rw [hcut] at hcv
      have hn : l[k].toNat ≤ 255 := by have := l[k].toNat_lt; omega
      have R := RT.out l[k].toNat hn w
      have HE := Lib.hid (escL_snoc l k hlt)
      have HXS := Lib.hid (show ∀ s : Bool, spN l[k].toNat = s → escC l[k] = if s = true then [92, l[k]] else [l[k]] from fun s hs => by unfold escC; rw [hs])
      cases ht : textN l[k].toNat with
      | false =>
        have HN := Lib.hid (allT_false l k hlt ht)
        rw [ht] at R
        have R := Lib.hid R
        clear ht hsl hcut hcv
        go_wp2_with fail
        refine R.out.mono ?_
        rintro e w1 ⟨rfl, rfl⟩
        go_wp2_with fail
        go_ret2
        exact ⟨by rw [hq.out.1, hq.out.2, HN.out]; rfl, rfl⟩
      | true =>
        have HN := Lib.hid (allT_snoc l k hlt hT.out ht)
        rw [ht] at R
        have R := Lib.hid R
        clear ht hcut
        generalize hx : l[k] = x at *
        have HXE := Lib.hid hx
        clear hx
        by_cases h34 : x.toNat = 34
        · have HS := Lib.hid (HXS.out true (by unfold spN; simp [h34]))
          have e1 : ((x.toNat : Int) == 34) = true := by simp; omega
          clear h34
          go_wp2_with fail
          refine R.out.mono ?_
          rintro e w1 ⟨rfl, rfl⟩
          go_wp2_with fail
          go_round
          case rel => exact ⟨k + 1, X ++ [92, x], by omega, by go_num, congrArg Value.string (ref_sp X x), ref_next hX.out HE.out HS.out, HN.out⟩
          case measure => simp [intOf]; omega
        · by_cases h92 : x.toNat = 92
          · have HS := Lib.hid (HXS.out true (by unfold spN; simp [h92]))
            have e1 : ((x.toNat : Int) == 34) = false := by simp; omega
            have e2 : ((x.toNat : Int) == 92) = true := by simp; omega
            clear h34 h92
            go_wp2_with fail
            refine R.out.mono ?_
            rintro e w1 ⟨rfl, rfl⟩
            go_wp2_with fail
            go_round
            case rel => exact ⟨k + 1, X ++ [92, x], by omega, by go_num, congrArg Value.string (ref_sp X x), ref_next hX.out HE.out HS.out, HN.out⟩
            case measure => simp [intOf]; omega
          · have HS := Lib.hid (HXS.out false (by unfold spN; simp [h34, h92]))
            have e1 : ((x.toNat : Int) == 34) = false := by simp; omega
            have e2 : ((x.toNat : Int) == 92) = false := by simp; omega
            clear h34 h92
            go_wp2_with fail
            refine R.out.mono ?_
            rintro e w1 ⟨rfl, rfl⟩
            go_wp2_with fail
            go_round
            case rel => exact ⟨k + 1, X ++ [x], by omega, by go_num, congrArg Value.string (cat_mk X [x]), ref_next hX.out HE.out HS.out, HN.out⟩
            case measure => simp [intOf]; omega
    · obtain rfl : k = l.length := by omega
      have HT := Lib.hid (show allT l = true by have := hT.out; rwa [List.take_length] at this)
      go_wp2_with fail
      go_ret2
      exact ⟨by rw [hq.out.1, hq.out.2, HT.out, if_pos rfl, ← ref_end hX.out]; exact congrArg (fun z => Ending.returned (.tuple #[.string z, .bool true])) (cat_mk X [34]), rfl⟩
theorem refQuoted_any (B : Nat) (A : Option Addr) (c : Nat) (l : List UInt8) (hl : l.length ≤ 1000000) (w : World) (hA : ByAt B w A c l) :
    Calls Tryz.prog 128 #[.slice A l.length c] w fun e w' => e = .returned (.tuple #[.string ⟨(if allT l = true then quotedL l else []).toArray⟩, .bool (allT l)]) ∧ w = w' :=
  refQuoted_go _ _ B A c l hl w hA ⟨rfl, rfl⟩

set_option maxRecDepth 100000 in
set_option maxHeartbeats 2000000 in
theorem refLiteral_any (B : Nat) (A : Option Addr) (c : Nat) (l : List UInt8) (hl : l.length ≤ 1000000) (w : World) (hA : ByAt B w A c l) :
    Calls Tryz.prog 53 #[.slice A l.length c] w fun e w' => ∃ A' c', e = .returned (.slice A' (literalL l).length c') ∧ ByAt w'.heap.size w' A' c' (literalL l) ∧ Below w.heap.size w w' := by
  have D := Lib.hid (refDecimal_any l.length (by omega) w)
  have HA := Lib.hid hA
  have hdl := dec_len (u := l.length) (by omega)
  have HL := Lib.hid (show literalL l = (123 :: (decDigits l.length ++ [125, 13, 10])) ++ l from rfl)
  have HLL := Lib.hid (show (literalL l).length = 1 + (decDigits l.length).length + 3 + l.length by rw [HL.out]; simp; omega)
  clear hA
  generalize decDigits l.length = d at *
  generalize literalL l = L at *
  obtain ⟨cap, w3, hcs, h3, _, hcap, hw3, hrow⟩ := convB w (ByteArray.mk #[123] ++ ByteArray.mk d.toArray ++ ByteArray.mk #[125, 13, 10]) _ (headS_size d)
  have HROW := Lib.hid hrow
  have HSZ := Lib.hid (headS_size d)
  obtain ⟨n, hn⟩ : ∃ n, 1 + d.length + 3 + l.length = n := ⟨_, rfl⟩
  have HN := Lib.hid hn
  rw [hn] at HLL
  clear hn hrow hw3
  go_enter Tryz.func53, Tryz.ntmps53
  go_wp2_with fail
  refine D.out.mono ?_
  rintro e w1 ⟨rfl, rfl⟩
  clear D
  go_wp2_with (at_builtin; refine wpList_append_str rfl _ _ rfl w.heap.size cap _ _ HSZ.out hcap rfl HROW.out B A c l rfl (HA.out.grow h3) (by omega) n HN.out ?_; intro A' c' w4 hR h4)
  have HR := Lib.hid hR.out
  rw [headS_list, ← HL.out] at HR
  have hB := h3.trans h4
  clear hR h4 h3 hcs
  go_wp2_with fail
  go_ret
  exact ⟨_, _, by rw [HLL.out]; rfl, HR.out, hB⟩

set_option maxRecDepth 100000 in
set_option maxHeartbeats 2000000 in
theorem refBest_any (B : Nat) (A : Option Addr) (c : Nat) (l : List UInt8) (hl : l.length ≤ 1000000) (w : World) (hA : ByAt B w A c l) :
    Calls Tryz.prog 86 #[.slice A l.length c] w fun e w' => ∃ A' c', e = .returned (.slice A' (bestL l).length c') ∧ ByAt w'.heap.size w' A' c' (bestL l) ∧ Below w.heap.size w w' := by
  have Q := refQuoted_any B A c l hl w hA
  cases ha : allT l with
  | true =>
    have HB := Lib.hid (show bestL l = quotedL l by unfold bestL; rw [if_pos ha])
    rw [ha, if_pos rfl] at Q
    have Q := Lib.hid Q
    generalize bestL l = L at *
    generalize quotedL l = q at *
    obtain rfl := HB.out
    clear ha hA HB
    obtain ⟨cap, w3, hcs, hB3, hP, hcap, hw3, _⟩ := convB w ⟨L.toArray⟩ L.length (by show L.toArray.size = _; simp)
    have HP := Lib.hid hP
    clear hP hw3
    go_enter Tryz.func86, Tryz.ntmps86
    go_wp2_with fail
    refine Q.out.mono ?_
    rintro e w1 ⟨rfl, rfl⟩
    clear Q
    go_wp2_with fail
    go_ret
    exact ⟨_, _, rfl, HP.out, hB3⟩
  | false =>
    have HB := Lib.hid (show bestL l = literalL l by unfold bestL; rw [if_neg (by simp [ha])])
    rw [ha, if_neg (by simp)] at Q
    have Q := Lib.hid Q
    have L1 := Lib.hid (refLiteral_any B A c l hl w hA)
    generalize bestL l = L at *
    generalize literalL l = q at *
    obtain rfl := HB.out
    clear ha hA HB
    go_enter Tryz.func86, Tryz.ntmps86
    go_wp2_with fail
    refine Q.out.mono ?_
    rintro e w1 ⟨rfl, rfl⟩
    go_wp2_with fail
    refine L1.out.mono ?_
    rintro e w2 ⟨A', c', rfl, hR, h2⟩
    have HR := Lib.hid hR
    clear Q L1 hR
    go_wp2_with fail
    go_ret
    exact ⟨_, _, rfl, HR.out, h2⟩
end Go.Proofs.YtpgfnlhfciacoaaGreatDoor

namespace Go.Proofs.YtpgfnlhfciacoaaGreatDoor
open Go.RowKit
open Go.Lib hiding intOf

set_option maxHeartbeats 400000 in
theorem refForm_any (n : Nat) (hn : n ≤ 4294967295) (w : World) :
    Calls Tryz.prog 89 #[.int .u32 n] w fun e w' => e = .returned (.string ⟨(formN n).toArray⟩) ∧ w = w' := by
  unfold formN
  by_cases h0 : n = 0
  · subst h0
    go_enter Tryz.func89, Tryz.ntmps89
    go_wp2
    go_ret
    exact ⟨rfl, rfl⟩
  · have D := Lib.hid (refDecimal_any n hn w)
    rw [if_neg h0]
    generalize decDigits n = d at *
    have h3 : ¬ (n : Int) = 0 := by omega
    go_enter Tryz.func89, Tryz.ntmps89
    go_wp2_with fail
    refine D.out.mono ?_
    rintro e w1 ⟨rfl, rfl⟩
    go_wp2_with fail
    go_ret
    exact ⟨rfl, rfl⟩

end Go.Proofs.YtpgfnlhfciacoaaGreatDoor

namespace Go.Proofs.YtpgfnlhfciacoaaGreatDoor
open Go.RowKit Go.Shelf

theorem below_drewM {B : Nat} {a w : World} (h : Below B a w) (n : Nat) : Below B a (w.drewN n) := ⟨h.os, h.tape, h.output, h.size, h.block⟩

set_option maxRecDepth 100000 in
set_option maxHeartbeats 2000000 in
theorem refPrint_any (A : Option Addr) (c : Nat) (l : List R) (hn : l.length ≤ 1000000000) (hb : ∀ r ∈ l, r.1 ≤ 4294967295 ∧ r.2 ≤ 4294967295) (w : World) (hS : SlAt encR 2 w A l) :
    Calls Tryz.prog 54 #[.slice A l.length c] w fun e w' => e = .returned (.string ⟨(printL l).toArray⟩) ∧ Below w.heap.size w w' := by
  have HS := Lib.hid hS
  have HBd := Lib.hid hb
  clear hS hb
  go_enter Tryz.func54, Tryz.ntmps54
  go_wp2_with fail
  go_loopw [3, 4] (fun s i wr => ∃ (k : Nat) (t : ByteArray), k ≤ l.length ∧ i = .int .i64 k ∧ s = .string t ∧ Hid (t.data.toList = printL (l.take k)) ∧ t.size ≤ 22 * k ∧ Below w.heap.size w wr)
    (fun _ i _ => l.length - (intOf i).toNat)
  case atStart => exact ⟨0, ⟨#[]⟩, Nat.zero_le _, rfl, rfl, rfl, by simp [ByteArray.size], Below.refl _ _⟩
  case round =>
    obtain ⟨k, t, hk, rfl, rfl, ht, hts, hB⟩ := hrel
    by_cases hlt : k < l.length
    · obtain ⟨b, off, rfl, hbl, hc0, hc1⟩ := (HS.out.below hB).pair hlt
      have hbr := HBd.out l[k] (List.getElem_mem _)
      have HT := Lib.hid (printL_take l k hlt)
      clear HBd HS
      generalize l[k] = r at *
      generalize hP : printL (l.take k) = P at *
      clear hP
      obtain ⟨lo, hi⟩ := r
      dsimp only at hc0 hc1 hbr
      have hs1 := (formN_len hbr.1).1
      have hs2 := (formN_len hbr.2).1
      have F1 := fun w1 => Lib.hid (refForm_any lo hbr.1 w1)
      have F2 := fun w1 => Lib.hid (refForm_any hi hbr.2 w1)
      have HF := Lib.hid (show formR (lo, hi) = if lo = hi then formN lo else formN lo ++ 58 :: formN hi from rfl)
      generalize formR (lo, hi) = f at *
      have m1 : (ByteArray.mk (formN lo).toArray).size ≤ 10 := by simpa [ByteArray.size] using hs1
      have m2 : (ByteArray.mk (formN hi).toArray).size ≤ 10 := by simpa [ByteArray.size] using hs2
      have G1 := Lib.hid (show (ByteArray.mk (formN lo).toArray).data.toList = formN lo from rfl)
      have G2 := Lib.hid (show (ByteArray.mk (formN hi).toArray).data.toList = formN hi from rfl)
      clear hs1 hs2
      generalize ByteArray.mk (formN lo).toArray = s1 at *
      generalize ByteArray.mk (formN hi).toArray = s2 at *
      have z1 : (ByteArray.mk #[44]).size = 1 := rfl
      have z2 : (ByteArray.mk #[58]).size = 1 := rfl
      have Z1 := Lib.hid z1
      have Z2 := Lib.hid z2
      clear z1 z2
      by_cases h0 : 0 < k
      · by_cases he : lo = hi
        · subst he
          go_wp2_with fail
          refine (F1 _).out.mono ?_
          rintro e w1 ⟨rfl, rfl⟩
          go_wp2_with fail
          go_quiet (fail)
          go_wp2_with fail
          go_roundw
          case rel => exact ⟨k + 1, t ++ ⟨#[44]⟩ ++ s1, by omega, by go_num, rfl, Lib.hid (by rw [HT.out, HF.out, if_pos h0, if_pos trivial, ← ht.out, ← G1.out]; simp), by simp only [ByteArray.size_append, Z1.out]; omega, below_drewM hB _⟩
          case measure => simp [intOf]; omega
        · go_wp2_with fail
          refine (F1 _).out.mono ?_
          rintro e w1 ⟨rfl, rfl⟩
          go_wp2_with fail
          go_quiet (fail)
          go_wp2_with fail
          refine (F2 _).out.mono ?_
          rintro e w1 ⟨rfl, rfl⟩
          go_wp2_with fail
          go_roundw
          case rel => exact ⟨k + 1, t ++ ⟨#[44]⟩ ++ s1 ++ ⟨#[58]⟩ ++ s2, by omega, by go_num, rfl, Lib.hid (by rw [HT.out, HF.out, if_pos h0, if_neg he, ← ht.out, ← G1.out, ← G2.out]; simp), by simp only [ByteArray.size_append, Z1.out, Z2.out]; omega, below_drewM hB _⟩
          case measure => simp [intOf]; omega
      · by_cases he : lo = hi
        · subst he
          go_wp2_with fail
          refine (F1 _).out.mono ?_
          rintro e w1 ⟨rfl, rfl⟩
          go_wp2_with fail
          go_quiet (fail)
          go_wp2_with fail
          go_roundw
          case rel => exact ⟨k + 1, t ++ s1, by omega, by go_num, rfl, Lib.hid (by rw [HT.out, HF.out, if_neg h0, if_pos trivial, ← ht.out, ← G1.out]; simp), by simp only [ByteArray.size_append]; omega, below_drewM hB _⟩
          case measure => simp [intOf]; omega
        · go_wp2_with fail
          refine (F1 _).out.mono ?_
          rintro e w1 ⟨rfl, rfl⟩
          go_wp2_with fail
          go_quiet (fail)
          go_wp2_with fail
          refine (F2 _).out.mono ?_
          rintro e w1 ⟨rfl, rfl⟩
          go_wp2_with fail
          go_roundw
          case rel => exact ⟨k + 1, t ++ s1 ++ ⟨#[58]⟩ ++ s2, by omega, by go_num, rfl, Lib.hid (by rw [HT.out, HF.out, if_neg h0, if_neg he, ← ht.out, ← G1.out, ← G2.out]; simp), by simp only [ByteArray.size_append, Z2.out]; omega, below_drewM hB _⟩
          case measure => simp [intOf]; omega
    · obtain rfl : k = l.length := by omega
      rw [List.take_length] at ht
      clear HS HBd
      have hR : Value.string t = .string ⟨(printL l).toArray⟩ := by
        congr 1
        apply ByteArray.ext
        apply Array.toList_inj.1
        rw [ht.out]
      have HR := Lib.hid hR
      clear hR ht
      go_wp2_with fail
      go_ret
      exact ⟨by rw [← HR.out]; rfl, hB⟩

end Go.Proofs.YtpgfnlhfciacoaaGreatDoor

namespace Go.Proofs.YtpgfnlhfciacoaaGreatDoor
open Go.RowKit Go.Maps

set_option maxRecDepth 100000 in
set_option maxHeartbeats 2000000 in
theorem refList8_any (f : Nat) (hf : f < 256) (w : World) :
    Calls Tryz.prog 52 #[.int .i64 f] w fun e w' => e = .returned (.string ⟨(listL f).toArray⟩) ∧ w = w' := by
  have NM := Lib.hid (fun n w1 => refFName_any n w1)
  go_enter Tryz.func52, Tryz.ntmps52
  go_wp2_with fail
  go_loop [3, 4] (fun t i => ∃ (k o : Nat) (T : ByteArray), Hid (bitAtK k o ∧ T.data.toList = spG nameF f k) ∧ 1 ≤ o ∧ o ≤ 32 ∧ i = .int .i64 (o : Int) ∧ t = .string T ∧ T.size ≤ 12 * k ∧ k ≤ 5) (fun _ i => 64 - (intOf i).toNat)
  case atStart => exact ⟨0, 1, ⟨#[]⟩, Lib.hid ⟨⟨by omega, rfl⟩, rfl⟩, by omega, by omega, rfl, rfl, by decide, by omega⟩
  case round =>
    obtain ⟨k, o, T, HK, h1, h32, rfl, rfl, hT, hk⟩ := hrel
    by_cases h16 : o ≤ 16
    · obtain ⟨hon, hnx, h4⟩ := HK.out.1.ones h16
      have HN := Lib.hid hnx
      have hc : (o : Int) ≤ 16 := by omega
      have hc1 : (1 : Int) ≤ (o : Int) := by omega
      by_cases ht : f &&& o = 0
      · have hb1 : (bits BinOp.and IntKind.i64 (f : Int) (o : Int) == 0) = true := bit64_yes (o := o) hf (by omega) ht
        have HS := Lib.hid (spG_no (nm := nameF) hon ht)
        clear ht hon hnx
        go_wp2_with fail
        go_round
        case rel => exact ⟨k + 1, 2 * o, T, Lib.hid ⟨HN.out, by rw [HK.out.2, HS.out]⟩, by omega, by omega, by go_num, rfl, by omega, by omega⟩
        case measure => simp [intOf]; omega
      · have hb1 : (bits BinOp.and IntKind.i64 (f : Int) (o : Int) == 0) = false := bit64_no (o := o) hf (by omega) ht
        have HS := Lib.hid (spG_yes (nm := nameF) (fun x hx => name_ne hx) hon ht)
        have hl := name_len o
        have hsz : (ByteArray.mk (nameF o).toArray).size ≤ 9 := by show (nameF o).toArray.size ≤ 9; simpa using hl
        have HD := Lib.hid (show (ByteArray.mk (nameF o).toArray).data.toList = nameF o from rfl)
        have NMo := Lib.hid (fun w1 => NM.out o w1)
        generalize ByteArray.mk (nameF o).toArray = nb at *
        clear ht hon hnx hl
        have z1 : (ByteArray.mk #[32]).size = 1 := rfl
        by_cases he : T.data.toList = []
        · have hS := Lib.hid (show nb.data.toList = spG nameF f (k + 1) by rw [HS.out, ← HK.out.2, if_pos he, HD.out])
          obtain rfl := str_of he
          clear he HS HK
          go_wp2_with fail
          refine (NMo.out _).mono ?_
          rintro e w1 ⟨rfl, rfl⟩
          go_wp2_with fail
          go_round
          case rel => exact ⟨k + 1, 2 * o, _, Lib.hid ⟨HN.out, by rw [← hS.out]; simp [ByteArray.data_append]⟩, by omega, by omega, by go_num, rfl, by simp [ByteArray.size_append]; omega, by omega⟩
          case measure => simp [intOf]; omega
        · have hS := Lib.hid (show T.data.toList ++ 32 :: nb.data.toList = spG nameF f (k + 1) by rw [HS.out, ← HK.out.2, if_neg he, HD.out])
          have h1' : T.toList.isEmpty = false := by rw [btl]; simpa using he
          have h2 : ¬ T.toList = [] := by rw [btl]; exact he
          clear he HS HK
          go_wp2_with fail
          refine (NMo.out _).mono ?_
          rintro e w1 ⟨rfl, rfl⟩
          go_wp2_with fail
          go_round
          case rel => exact ⟨k + 1, 2 * o, _, Lib.hid ⟨HN.out, by rw [← hS.out]; simp [ByteArray.data_append]⟩, by omega, by omega, by go_num, rfl, by simp only [ByteArray.size_append, z1]; omega, by omega⟩
          case measure => simp [intOf]; omega
    · obtain rfl := HK.out.1.last h16
      have HE := Lib.hid (show T.data.toList = spL ((eachL f).map nameF) from HK.out.2)
      have hc : ¬ (o : Int) ≤ 16 := by omega
      have hc2 : decide ((o : Int) ≤ 16) = false := by simpa using hc
      clear HK hk
      go_wp2_with fail
      go_ret
      refine ⟨ret_str (str_of ?_), rfl⟩
      simp only [ByteArray.data_append, Array.toList_append, HE.out]
      rfl

end Go.Proofs.YtpgfnlhfciacoaaGreatDoor

namespace Go.Proofs.YtpgfnlhfciacoaaGreatDoor
open Go.RowKit Go.Maps

set_option maxRecDepth 100000 in
set_option maxHeartbeats 2000000 in
theorem ritems8_any (f : Nat) (hf : f < 256) (w : World) :
    Calls Tryz.prog 55 #[.int .i64 f] w fun e w' => e = .returned (.string ⟨(itemsT f).toArray⟩) ∧ w = w' := by
  have NM := Lib.hid (fun n (hn : n ∈ itms) w1 => itemName_any n hn w1)
  go_enter Tryz.func55, Tryz.ntmps55
  go_wp2_with fail
  go_loop [3, 4] (fun t i => ∃ (k o : Nat) (T : ByteArray), Hid (bitAtK k o ∧ T.data.toList = spG itemB f k) ∧ 1 ≤ o ∧ o ≤ 32 ∧ i = .int .i64 (o : Int) ∧ t = .string T ∧ T.size ≤ 12 * k ∧ k ≤ 5) (fun _ i => 64 - (intOf i).toNat)
  case atStart => exact ⟨0, 1, ⟨#[]⟩, Lib.hid ⟨⟨by omega, rfl⟩, rfl⟩, by omega, by omega, rfl, rfl, by decide, by omega⟩
  case round =>
    obtain ⟨k, o, T, HK, h1, h32, rfl, rfl, hT, hk⟩ := hrel
    by_cases h16 : o ≤ 16
    · obtain ⟨hon, hnx, h4⟩ := HK.out.1.ones h16
      have HN := Lib.hid hnx
      have hc : (o : Int) ≤ 16 := by omega
      have hc1 : (1 : Int) ≤ (o : Int) := by omega
      by_cases ht : f &&& o = 0
      · have hb1 : (bits BinOp.and IntKind.i64 (f : Int) (o : Int) != 0) = false := by simp [bne, bit64_yes (o := o) hf (by omega) ht]
        have HS := Lib.hid (spG_no (nm := itemB) hon ht)
        clear ht hon hnx
        go_wp2_with fail
        go_round
        case rel => exact ⟨k + 1, 2 * o, T, Lib.hid ⟨HN.out, by rw [HK.out.2, HS.out]⟩, by omega, by omega, by go_num, rfl, by omega, by omega⟩
        case measure => simp [intOf]; omega
      · have hb1 : (bits BinOp.and IntKind.i64 (f : Int) (o : Int) != 0) = true := by simp [bne, bit64_no (o := o) hf (by omega) ht]
        have HS := Lib.hid (spG_yes (nm := itemB) itemB_ne hon ht)
        have hmem : o ∈ itms := List.mem_of_getElem? hon
        have HM := Lib.hid hmem
        have hl := itemB_len o
        have hsz : (ByteArray.mk (itemB o).toArray).size ≤ 11 := by show (itemB o).toArray.size ≤ 11; simpa using hl
        have HD := Lib.hid (show (ByteArray.mk (itemB o).toArray).data.toList = itemB o from rfl)
        have NMo := Lib.hid (fun w1 => NM.out o HM.out w1)
        generalize ByteArray.mk (itemB o).toArray = nb at *
        clear ht hon hnx hmem hl
        have z1 : (ByteArray.mk #[32]).size = 1 := rfl
        by_cases he : T.data.toList = []
        · have hS := Lib.hid (show nb.data.toList = spG itemB f (k + 1) by rw [HS.out, ← HK.out.2, if_pos he, HD.out])
          obtain rfl := str_of he
          clear he HS HK
          go_wp2_with fail
          refine (NMo.out _).mono ?_
          rintro e w1 ⟨rfl, rfl⟩
          go_wp2_with fail
          go_round
          case rel => exact ⟨k + 1, 2 * o, _, Lib.hid ⟨HN.out, by rw [← hS.out]; simp [ByteArray.data_append]⟩, by omega, by omega, by go_num, rfl, by simp [ByteArray.size_append]; omega, by omega⟩
          case measure => simp [intOf]; omega
        · have hS := Lib.hid (show T.data.toList ++ 32 :: nb.data.toList = spG itemB f (k + 1) by rw [HS.out, ← HK.out.2, if_neg he, HD.out])
          have h1' : T.toList.isEmpty = false := by rw [btl]; simpa using he
          have h2 : ¬ T.toList = [] := by rw [btl]; exact he
          clear he HS HK
          go_wp2_with fail
          refine (NMo.out _).mono ?_
          rintro e w1 ⟨rfl, rfl⟩
          go_wp2_with fail
          go_round
          case rel => exact ⟨k + 1, 2 * o, _, Lib.hid ⟨HN.out, by rw [← hS.out]; simp [ByteArray.data_append]⟩, by omega, by omega, by go_num, rfl, by simp only [ByteArray.size_append, z1]; omega, by omega⟩
          case measure => simp [intOf]; omega
    · obtain rfl := HK.out.1.last h16
      have HE := Lib.hid (show T.data.toList = spL ((eachL f).map itemB) from HK.out.2)
      have hc : ¬ (o : Int) ≤ 16 := by omega
      have hc2 : decide ((o : Int) ≤ 16) = false := by simpa using hc
      clear HK hk
      go_wp2_with fail
      go_ret
      refine ⟨ret_str (str_of ?_), rfl⟩
      simp only [ByteArray.data_append, Array.toList_append, HE.out]
      rfl

set_option maxRecDepth 100000 in
set_option maxHeartbeats 1000000 in
theorem rmode8_any (m : Nat) (hm : m ≤ 2) (si : Bool) (w : World) :
    Calls Tryz.prog 56 #[.int .i64 (m : Int), .bool si] w fun e w' => e = .returned (.string ⟨(modeT m si).toArray⟩) ∧ Below w.heap.size w w' := by
  have HB := Lib.hid (fun o => below_al w o)
  have hc : m = 0 ∨ m = 1 ∨ m = 2 := by omega
  rcases hc with rfl | rfl | rfl <;> cases si
  all_goals
    go_enter Tryz.func56, Tryz.ntmps56
    go_wp2_with fail
    go_ret
    exact ⟨rfl, HB.out _⟩
end Go.Proofs.YtpgfnlhfciacoaaGreatDoor

namespace Go.Proofs.YtpgfnlhfciacoaaGreatDoor
open Go.RowKit

set_option maxRecDepth 100000 in
set_option maxHeartbeats 400000 in
theorem refIsAtom8_any (s : ByteArray) (hs : s.size ≤ 1000000000) (w : World) :
    Calls Tryz.prog 85 #[.string s] w fun e w' => e = .returned (.bool (allL atomN s.data.toList)) ∧ w = w' := by
  go_enter Tryz.func85, Tryz.ntmps85
  go_wp2_with fail
  go_loop [3] (fun i => ∃ k : Nat, k ≤ s.size ∧ i = .int .i64 k ∧ (s.data.toList.take k).all (fun c => atomN c.toNat) = true) (fun i => s.size - (intOf i).toNat)
  case atStart => exact ⟨0, Nat.zero_le _, rfl, rfl⟩
  case round =>
    obtain ⟨k, hk, rfl, ha⟩ := hrel
    have HA := Lib.hid ha
    clear ha
    by_cases hlt : k < s.size
    · have hn : s[k].toNat ≤ 255 := by have := s[k].toNat_lt; omega
      have C := Lib.hid (refAtom_any s[k].toNat w hn)
      cases hg : atomN s[k].toNat with
      | true =>
        have HG := Lib.hid hg
        rw [hg] at C
        clear hg
        go_wp2_with fail
        refine C.out.mono ?_
        rintro e w' ⟨rfl, rfl⟩
        go_wp2
        go_round
        case rel => exact ⟨k + 1, by omega, by go_num, by rw [take_snocB s k hlt, List.all_append, HA.out, List.all_cons, HG.out]; rfl⟩
        case measure => simp [intOf]; omega
      | false =>
        have HG := Lib.hid (all_false atomN s k hlt hg)
        rw [hg] at C
        clear hg
        go_wp2_with fail
        refine C.out.mono ?_
        rintro e w' ⟨rfl, rfl⟩
        go_wp2
        go_ret
        exact ⟨ret_bool HG.out.symm, rfl⟩
    · obtain rfl : k = s.size := by omega
      have HG := Lib.hid (all_done atomN s HA.out)
      go_wp2_with fail
      go_ret
      exact ⟨ret_bool HG.out.symm, rfl⟩

set_option maxRecDepth 100000 in
set_option maxHeartbeats 1000000 in
theorem rmailbox8_any (l : List UInt8) (hl : l.length ≤ 1000000) (w : World) :
    Calls Tryz.prog 51 #[.string ⟨l.toArray⟩] w fun e w' => e = .returned (.string ⟨(mboxT l).toArray⟩) ∧ Below w.heap.size w w' := by
  have hsz : (ByteArray.mk l.toArray).size = l.length := by show l.toArray.size = _; simp
  have IA : Hid (Calls Tryz.prog 85 #[.string ⟨l.toArray⟩] w fun e w' => e = .returned (.bool (allL atomN l)) ∧ w = w') := Lib.hid (refIsAtom8_any ⟨l.toArray⟩ (by rw [hsz]; omega) w)
  have HM := Lib.hid (show mboxT l = if allL atomN l = true then l else bestL l from rfl)
  generalize allL atomN l = q at *
  cases q with
  | true =>
    clear hsz
    go_enter Tryz.func51, Tryz.ntmps51
    go_wp2_with fail
    refine IA.out.mono ?_
    rintro e w1 ⟨rfl, rfl⟩
    go_wp2_with fail
    go_ret
    exact ⟨by rw [HM.out]; rfl, Below.refl _ _⟩
  | false =>
    obtain ⟨cap, w2, hrun, hb2, hby, _, hs2, _⟩ := convB w ⟨l.toArray⟩ l.length hsz
    have HB2 := Lib.hid hb2
    have BE : Hid (Calls Tryz.prog 86 #[.slice (some ⟨w.heap.size, 0, none⟩) l.length cap] w2 fun e w' => ∃ A' c', e = .returned (.slice A' (bestL l).length c') ∧ ByAt w'.heap.size w' A' c' (bestL l) ∧ Below w2.heap.size w2 w') := Lib.hid (refBest_any _ _ cap l hl w2 hby)
    clear hsz hb2 hby hs2
    generalize l.length = n at *
    go_enter Tryz.func51, Tryz.ntmps51
    go_wp2_with fail
    refine IA.out.mono ?_
    rintro e w1 ⟨rfl, rfl⟩
    go_wp2_with fail
    refine BE.out.mono ?_
    rintro e w3 ⟨A', c', rfl, hby3, hb3⟩
    have cv := convS _ w3 A' c' _ (bestL l) hby3 rfl
    have HB3 := Lib.hid (below_next HB2.out hb3)
    clear hrun hby3 hb3
    generalize (bestL l).length = m at *
    go_wp2_with fail
    go_ret
    exact ⟨by rw [HM.out]; rfl, HB3.out⟩
end Go.Proofs.YtpgfnlhfciacoaaGreatDoor
