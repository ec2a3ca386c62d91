import Derived.Test.YtpgfnlhfciacoaaGreatDoorPGp
import Derived.Test.YtpgfnlhfciacoaaGreatDoorPGf
set_option maxRecDepth 100000
set_option maxHeartbeats 2000000
open Go.Lib renaming hid → Hi
namespace Go.Proofs.YtpgfnlhfciacoaaGreatDoor
open Go.RowKit
theorem byte_back (w : World) (c : UInt8) (x : Int) (hx : x = c.toNat) : (convert 24 9 (.slice (some ⟨w.heap.size, 0, none⟩) 1 1)).run Tryz.prog (w.alloc (.cells #[.int .u8 x] 5)) = .ok (.string ⟨#[c]⟩) (w.alloc (.cells #[.int .u8 x] 5)) := by
 subst hx
 exact run_convert_bytes_back (P := Tryz.prog) (w.alloc (.cells #[.int .u8 c.toNat] 5)) 24 9 5 ⟨w.heap.size, 0, none⟩ 1 [c] Tryz.underlying24 Tryz.underlying5 Tryz.underlying9 (fun j hj => by
  obtain rfl : j = 0 := by simpa using hj
  rw [Lib.add_plain, World.cell?_alloc_new]
  rfl)
theorem up_snoc (s : ByteArray) (k : Nat) (h : k < s.size) : Value.string (ByteArray.mk (upL (s.data.toList.take k)).toArray ++ ByteArray.mk #[upB s[k]]) = Value.string ⟨(upL (s.data.toList.take (k + 1))).toArray⟩ := by
 congr 1
 apply ByteArray.ext
 rw [take_snocB s k h]
 simp [upL, ByteArray.data_append]
theorem refUpper_any (s : ByteArray) (hs : s.size ≤ 1000000000) (w : World) :
 Calls Tryz.prog 138 #[.string s] w fun e w' => e = .returned (.string ⟨(upL s.data.toList).toArray⟩) ∧ Below w.heap.size w w' := by
 go_enter Tryz.func138, Tryz.ntmps138
 go_wp2_with fail
 go_loopw [3, 4] (fun o i wr => ∃ k : Nat, k ≤ s.size ∧ i = .int .i64 k ∧ o = .string ⟨(upL (s.data.toList.take k)).toArray⟩ ∧ Below w.heap.size w wr) (fun _ i _ => s.size - (intOf i).toNat)
 case atStart => exact ⟨0, Nat.zero_le _, rfl, rfl, Below.refl _ _⟩
 case round =>
  obtain ⟨k, hk, rfl, rfl, hb⟩ := hrel
  by_cases hlt : k < s.size
  · have hlen : (upL (s.data.toList.take k)).length ≤ k := by rw [upL_length]; exact List.length_take_le _ _
    have hn : s[k].toNat ≤ 255 := by have := s[k].toNat_lt; omega
    by_cases ha : 97 ≤ s[k].toNat
    · by_cases hz : s[k].toNat ≤ 122
      · have hcv := byte_back wr (upB s[k]) ((s[k].toNat : Int) - 32) (by rw [upB_toNat]; unfold upN; rw [if_pos ⟨ha, hz⟩]; omega)
        go_wp2_with fail
        go_roundw
        case rel => exact ⟨k + 1, by omega, by go_num, up_snoc s k hlt, (hb.alloc hb.size _)⟩
        case measure => simp [intOf]; omega
      · have hcv := byte_back wr (upB s[k]) (s[k].toNat : Int) (by rw [upB_toNat]; unfold upN; rw [if_neg (by omega)])
        go_wp2_with fail
        go_roundw
        case rel => exact ⟨k + 1, by omega, by go_num, up_snoc s k hlt, (hb.alloc hb.size _)⟩
        case measure => simp [intOf]; omega
    · have hcv := byte_back wr (upB s[k]) (s[k].toNat : Int) (by rw [upB_toNat]; unfold upN; rw [if_neg (by omega)])
      go_wp2_with fail
      go_roundw
      case rel => exact ⟨k + 1, by omega, by go_num, up_snoc s k hlt, (hb.alloc hb.size _)⟩
      case measure => simp [intOf]; omega
  · obtain rfl : k = s.size := by omega
    go_wp2_with fail
    go_ret
    exact ⟨by rw [take_all]; rfl, hb⟩
section
open Go.Lib hiding intOf
theorem refDecimal_any (u : Nat) (hu : u ≤ 4294967295) (w : World) :
 Calls Tryz.prog 88 #[.int .u32 u] w fun e w' => e = .returned (.string ⟨(decDigits u).toArray⟩) ∧ w = w' := by
 go_enter Tryz.func88, Tryz.ntmps88
 go_wp2_with fail
 go_loop [0, 3] (fun n s => ∃ (m : Nat) (acc : List UInt8), m ≤ u ∧ n = .int .u32 m ∧ s = .string ⟨acc.toArray⟩ ∧ decDigits m ++ acc = decDigits u) (fun n _ => (intOf n).toNat)
 case atStart => exact ⟨u, [], Nat.le_refl _, rfl, rfl, by simp⟩
 case round =>
  obtain ⟨m, acc, hm, rfl, rfl, he⟩ := hrel
  have HE := Hi he
  clear he
  have hal : acc.length ≤ 10 := by
   have h1 := congrArg List.length HE.out
   have h2 := dec_len hu
   rw [List.length_append] at h1
   omega
  by_cases hlt : 10 ≤ m
  · go_wp2_with fail
    go_round
    case rel => exact ⟨m / 10, _, by omega, by go_num, congrArg Value.string (dec_front (m % 10) (by omega) acc), dec_step HE.out hlt⟩
    case measure => simp [intOf]; omega
  · go_wp2_with fail
    go_ret
    exact ⟨by rw [← dec_last HE.out hlt, ← dec_front m (by omega) acc]; rfl, rfl⟩
theorem val_snoc (s : ByteArray) (k : Nat) (h : k < s.size) : valF 0 (s.data.toList.take (k + 1)) = valF 0 (s.data.toList.take k) * 10 + (s[k].toNat - 48) := by
 rw [take_snocB s k h, valF_append]
 simp only [valF, List.foldl_cons, List.foldl_nil]
theorem dig_snoc (s : ByteArray) (k : Nat) (h : k < s.size) (ha : (s.data.toList.take k).all QC = true) (h1 : 48 ≤ s[k].toNat) (h2 : s[k].toNat ≤ 57) : (s.data.toList.take (k + 1)).all QC = true := by
 rw [take_snocB s k h, List.all_append, ha]
 simp [QC, h1, h2]
theorem dig_no (s : ByteArray) (k : Nat) (h : k < s.size) (h1 : s[k].toNat < 48 ∨ 57 < s[k].toNat) : s.data.toList.all QC = false := by
 rw [List.all_eq_false]
 exact ⟨s[k], by simp [ByteArray.getElem_eq_getElem_data], by simp [QC]; omega⟩
theorem val_bound (s : ByteArray) (k : Nat) (ha : (s.data.toList.take k).all QC = true) (hk : k ≤ 10) : valF 0 (s.data.toList.take k) < 10000000000 := by
 have := valF_lt _ 0 0 ha (by omega)
 have hl : (s.data.toList.take k).length ≤ 10 := Nat.le_trans (List.length_take_le _ _) hk
 have hp : 10 ^ (0 + (s.data.toList.take k).length) ≤ 10 ^ 10 := Nat.pow_le_pow_right (by omega) (by omega)
 omega
theorem val_int {k : IntKind} {a b : Int} (h : a = b) : Value.int k a = .int k b := by rw [h]
theorem refNumber_any (s : ByteArray) (hs : s.size ≤ 1000000000) (w : World) :
 Calls Tryz.prog 129 #[.string s] w fun e w' => e = .returned (.tuple #[.int .u32 ((QH s.data.toList).getD 0 : Nat), .bool (QH s.data.toList).isSome]) ∧ w = w' := by
 by_cases hl : s.size ≤ 10
 · go_enter Tryz.func129, Tryz.ntmps129
   go_wp2_with fail
   go_loop [4, 5] (fun n i => ∃ k : Nat, k ≤ s.size ∧ i = .int .i64 k ∧ n = .int .u64 (valF 0 (s.data.toList.take k) : Nat) ∧ (s.data.toList.take k).all QC = true) (fun _ i => s.size - (intOf i).toNat)
   case atStart => exact ⟨0, Nat.zero_le _, rfl, rfl, rfl⟩
   case round =>
    obtain ⟨k, hk, rfl, rfl, ha⟩ := hrel
    have HA := Hi ha
    have hvb := val_bound s k ha (by omega)
    clear ha
    by_cases hlt : k < s.size
    · have HV := Hi (val_snoc s k hlt)
      have hc := s[k].toNat_lt
      generalize hx : valF 0 (s.data.toList.take k) = x at *
      have HX := Hi hx
      clear hx
      by_cases h1 : 48 ≤ s[k].toNat
      · by_cases h2 : s[k].toNat ≤ 57
        · have HD := Hi (dig_snoc s k hlt HA.out h1 h2)
          go_wp2_with fail
          go_round
          case rel => exact ⟨k + 1, by omega, by go_num, val_int (by rw [HV.out]; omega), HD.out⟩
          case measure => simp [intOf]; omega
        · have HN := Hi (numOf_nodig (dig_no s k hlt (Or.inr (by omega))))
          go_wp2_with fail
          go_ret2
          exact ⟨by rw [HN.out]; rfl, rfl⟩
      · have HN := Hi (numOf_nodig (dig_no s k hlt (Or.inl (by omega))))
        go_wp2_with fail
        go_ret2
        exact ⟨by rw [HN.out]; rfl, rfl⟩
    · obtain rfl : k = s.size := by omega
      rw [take_all] at HA hvb
      rw [take_all]
      by_cases hbig : valF 0 s.data.toList ≤ 4294967295
      · have D := Hi (refDecimal_any (valF 0 s.data.toList) hbig w)
        by_cases hd : decDigits (valF 0 s.data.toList) = s.data.toList
        · have HN := Hi (numOf_same hbig hd)
          have ht : (decDigits (valF 0 s.data.toList) == s.toList) = true := by rw [btl]; simpa using hd
          clear hd
          generalize decDigits (valF 0 s.data.toList) = l at *
          generalize valF 0 s.data.toList = x at *
          go_wp2_with fail
          refine D.out.mono ?_
          rintro e w1 ⟨rfl, rfl⟩
          go_wp2_with fail
          go_ret2
          exact ⟨by rw [HN.out]; rfl, rfl⟩
        · have HN := Hi (numOf_other hd)
          have ht : (decDigits (valF 0 s.data.toList) == s.toList) = false := by rw [btl]; simpa using hd
          clear hd
          generalize decDigits (valF 0 s.data.toList) = l at *
          generalize valF 0 s.data.toList = x at *
          go_wp2_with fail
          refine D.out.mono ?_
          rintro e w1 ⟨rfl, rfl⟩
          go_wp2_with fail
          go_ret2
          exact ⟨by rw [HN.out]; rfl, rfl⟩
      · have HN := Hi (numOf_big (l := s.data.toList) (by omega))
        generalize valF 0 s.data.toList = x at *
        go_wp2_with fail
        go_ret2
        exact ⟨by rw [HN.out]; rfl, rfl⟩
 · have HN := Hi (numOf_long (l := s.data.toList) (by simp; omega))
   go_enter Tryz.func129, Tryz.ntmps129
   go_wp2_with fail
   go_ret2
   exact ⟨by rw [HN.out]; rfl, rfl⟩
end
theorem refFName_any (n : Nat) (w : World) :
 Calls Tryz.prog 87 #[.int .i64 n] w fun e w' => e = .returned (.string ⟨(YX n).toArray⟩) ∧ w = w' := by
 by_cases h1 : n = 1
 · subst h1
   go_enter Tryz.func87, Tryz.ntmps87
   go_wp2
   go_ret
   exact ⟨rfl, rfl⟩
 by_cases h2 : n = 2
 · subst h2
   go_enter Tryz.func87, Tryz.ntmps87
   go_wp2
   go_ret
   exact ⟨rfl, rfl⟩
 by_cases h4 : n = 4
 · subst h4
   go_enter Tryz.func87, Tryz.ntmps87
   go_wp2
   go_ret
   exact ⟨rfl, rfl⟩
 by_cases h8 : n = 8
 · subst h8
   go_enter Tryz.func87, Tryz.ntmps87
   go_wp2
   go_ret
   exact ⟨rfl, rfl⟩
 by_cases h16 : n = 16
 · subst h16
   go_enter Tryz.func87, Tryz.ntmps87
   go_wp2
   go_ret
   exact ⟨rfl, rfl⟩
 have R := Hi (show YX n = [] by unfold YX; rw [if_neg h1, if_neg h2, if_neg h4, if_neg h8, if_neg h16])
 have b1 : ((n : Int) == 1) = false := by simp; omega
 have b2 : ((n : Int) == 2) = false := by simp; omega
 have b4 : ((n : Int) == 4) = false := by simp; omega
 have b8 : ((n : Int) == 8) = false := by simp; omega
 have b16 : ((n : Int) == 16) = false := by simp; omega
 go_enter Tryz.func87, Tryz.ntmps87
 go_wp2
 go_ret
 exact ⟨by rw [R.out]; rfl, rfl⟩
theorem refVerb_any (k : Int) (h1 : -9223372036854775808 ≤ k) (h2 : k ≤ 9223372036854775807) (w : World) :
 Calls Tryz.prog 50 #[.int .i64 k] w fun e w' => e = .returned (.string ⟨(verbZ k).toArray⟩) ∧ Below w.heap.size w w' := by
 by_cases hlt : k < 1
 · have d1 : decide (k < 1) = true := by simpa using hlt
   have R := Hi (show verbZ k = [] by unfold verbZ; rw [if_neg (by omega)])
   clear hlt
   go_enter Tryz.func50, Tryz.ntmps50
   go_wp2_with fail
   go_ret
   exact ⟨by rw [R.out]; rfl, Below.refl _ _⟩
 · have d1 : decide (k < 1) = false := by simpa using hlt
   by_cases h9 : 8 < k
   · have d2 : decide ((8 : Int) < k) = true := by simpa using h9
     have R := Hi (show verbZ k = [] by unfold verbZ; rw [if_neg (by omega)])
     clear hlt
     go_enter Tryz.func50, Tryz.ntmps50
     go_wp2_with fail
     go_ret
     exact ⟨by rw [R.out]; rfl, Below.refl _ _⟩
   · have hk : k = 1 ∨ k = 2 ∨ k = 3 ∨ k = 4 ∨ k = 5 ∨ k = 6 ∨ k = 7 ∨ k = 8 := by omega
     clear d1 hlt h9 h1 h2
     rcases hk with rfl | rfl | rfl | rfl | rfl | rfl | rfl | rfl
     all_goals
      go_enter Tryz.func50, Tryz.ntmps50
      go_wp2_with fail
      go_ret
      exact ⟨rfl, YB _ _⟩
theorem refVerb_is (k : Nat) (hk : 1 ≤ k ∧ k ≤ 8) (w : World) :
 Calls Tryz.prog 50 #[.int .i64 (k : Int)] w fun e w' => e = .returned (.string ⟨(verbB k).toArray⟩) ∧ Below w.heap.size w w' := by
 have h := refVerb_any (k : Int) (by omega) (by omega) w
 rw [show verbZ (k : Int) = verbB k by unfold verbZ; rw [if_pos (by omega), Int.toNat_natCast]] at h
 exact h
theorem YZ (s : ByteArray) (hs : s.size ≤ 1000000000) (w : World) :
 Calls Tryz.prog 96 #[.string s] w fun e w' => e = .returned (.int .i64 (YC s.data.toList : Nat)) ∧ Below w.heap.size w w' := by
 have U := Hi (fun w1 => refUpper_any s hs w1)
 unfold YC
 generalize upL s.data.toList = y at *
 go_enter Tryz.func96, Tryz.ntmps96
 go_wp2_with fail
 go_loopw [3] (fun i wr => ∃ f : Nat, 1 ≤ f ∧ f ≤ 9 ∧ i = .int .i64 f ∧ Hid (∀ g, 1 ≤ g → g < f → y ≠ verbB g) ∧ Below w.heap.size w wr) (fun i _ => 32 - (intOf i).toNat)
 case atStart => exact ⟨1, by decide, by decide, rfl, Hi (fun g hg h => by omega), Below.refl _ _⟩
 case round =>
  obtain ⟨f, hf1, hf9, rfl, hn, hb⟩ := hrel
  by_cases hf : f = 9
  · subst hf
    have HZ := Hi (show QJ y = 0 by
     rcases kindU_is y with h | ⟨h1, h2, h3⟩
     · exact h
     · exact absurd h3 (hn.out _ h1 (by omega)))
    go_wp2_with fail
    go_ret
    exact ⟨by rw [HZ.out]; rfl, hb⟩
  · have hf8 : f ≤ 8 := by omega
    have V := Hi (fun w1 => refVerb_is f ⟨hf1, hf8⟩ w1)
    obtain ⟨x, hx⟩ : ∃ x, verbB f = x := ⟨_, rfl⟩
    rw [hx] at V
    have HX := Hi hx
    clear hx hf
    by_cases he : x = y
    · have hb1 : (x == y) = true := by simpa using he
      have HE := Hi (show QJ y = f from (kindU_eq ⟨hf1, hf8⟩).2 (by rw [HX.out, he]))
      clear he
      go_wp2_with fail
      refine (V.out _).mono ?_
      rintro e w1 ⟨rfl, h⟩
      replace hb := hb.trans (h.mono hb.size)
      clear h
      go_wp2_with fail
      refine (U.out _).mono ?_
      rintro e w2 ⟨rfl, h⟩
      replace hb := hb.trans (h.mono hb.size)
      clear h
      go_wp2_with fail
      go_ret
      exact ⟨by rw [HE.out]; rfl, hb⟩
    · have hb1 : (x == y) = false := by simpa using he
      have HE := Hi he
      clear he
      go_wp2_with fail
      refine (V.out _).mono ?_
      rintro e w1 ⟨rfl, h⟩
      replace hb := hb.trans (h.mono hb.size)
      clear h
      go_wp2_with fail
      refine (U.out _).mono ?_
      rintro e w2 ⟨rfl, h⟩
      replace hb := hb.trans (h.mono hb.size)
      clear h
      go_wp2_with fail
      go_roundw
      case rel => exact ⟨f + 1, by omega, by omega, by go_num, Hi (fun g hg hlt e => by
       rcases Nat.lt_succ_iff_lt_or_eq.1 hlt with h | rfl
       · exact hn.out g hg h e
       · exact HE.out (HX.out.symm.trans e.symm)), hb⟩
      case measure => simp [intOf]; omega
theorem itemName_any (n : Nat) (h : n ∈ itms) (w : World) :
 Calls Tryz.prog 90 #[.int .i64 (n : Int)] w fun e w' => e = .returned (.string ⟨(ZB n).toArray⟩) ∧ w = w' := by
 rcases itms_mem.1 h with rfl | rfl | rfl | rfl | rfl
 all_goals
  go_enter Tryz.func90, Tryz.ntmps90
  go_wp2_with fail
  go_ret
  exact ⟨rfl, rfl⟩
def cntI : List Nat := [1, 2, 4, 8, 16, 32]
theorem cntI_mem {x : Nat} : x ∈ cntI ↔ x = 1 ∨ x = 2 ∨ x = 4 ∨ x = 8 ∨ x = 16 ∨ x = 32 := by simp [cntI]
theorem refItem_any (s : ByteArray) (hs : s.size ≤ 1000000000) (w : World) :
 Calls Tryz.prog 142 #[.string s] w fun e w' => e = .returned (.int .i64 (itemL s.data.toList : Nat)) ∧ Below w.heap.size w w' := by
 have U := Hi (fun w1 => refUpper_any s hs w1)
 unfold itemL
 generalize upL s.data.toList = y at *
 go_enter Tryz.func142, Tryz.ntmps142
 go_wp2_with fail
 go_loopw [3] (fun i wr => ∃ f : Nat, f ∈ cntI ∧ i = .int .i64 f ∧ Hid (∀ g, g ∈ itms → g < f → y ≠ ZB g) ∧ Below w.heap.size w wr) (fun i _ => 32 - (intOf i).toNat)
 case atStart => exact ⟨1, by decide, rfl, Hi (fun g hg h => by rcases itms_mem.1 hg with rfl | rfl | rfl | rfl | rfl <;> omega), Below.refl _ _⟩
 case round =>
  obtain ⟨f, hf, rfl, hn, hb⟩ := hrel
  by_cases hf32 : f = 32
  · subst hf32
    have HZ := Hi (show itemU y = 0 by
     rcases itemU_is y with h | ⟨h1, h2⟩
     · exact h
     · exact absurd h2 (hn.out _ h1 (by rcases itms_mem.1 h1 with e | e | e | e | e <;> omega)))
    go_wp2_with fail
    go_ret
    exact ⟨by rw [HZ.out]; rfl, hb⟩
  · have ho : f ∈ itms := by
     rcases cntI_mem.1 hf with h | h | h | h | h | h
     · exact itms_mem.2 (by omega)
     · exact itms_mem.2 (by omega)
     · exact itms_mem.2 (by omega)
     · exact itms_mem.2 (by omega)
     · exact itms_mem.2 (by omega)
     · exact absurd h hf32
    have h16 : f ≤ 16 := by rcases itms_mem.1 ho with e | e | e | e | e <;> omega
    have h1 : 1 ≤ f := by rcases itms_mem.1 ho with e | e | e | e | e <;> omega
    have HO := Hi ho
    have H2 := Hi (show 2 * f ∈ cntI by rcases itms_mem.1 ho with rfl | rfl | rfl | rfl | rfl <;> decide)
    have HN2 := Hi (show ∀ g, g ∈ itms → g < 2 * f → g = f ∨ g < f from fun g hg hlt => by
     rcases itms_mem.1 ho with rfl | rfl | rfl | rfl | rfl <;> rcases itms_mem.1 hg with rfl | rfl | rfl | rfl | rfl <;> omega)
    have NM := Hi (fun w1 => itemName_any f ho w1)
    obtain ⟨x, hx⟩ : ∃ x, ZB f = x := ⟨_, rfl⟩
    rw [hx] at NM
    have HX := Hi hx
    clear ho hf hx
    by_cases he : x = y
    · have hb1 : (x == y) = true := by simpa using he
      have HE := Hi (show itemU y = f from (itemU_eq HO.out).2 (by rw [HX.out, he]))
      clear he
      go_wp2_with fail
      refine (NM.out _).mono ?_
      rintro e w1 ⟨rfl, rfl⟩
      go_wp2_with fail
      refine (U.out _).mono ?_
      rintro e w2 ⟨rfl, h⟩
      replace hb := hb.trans (h.mono hb.size)
      clear h
      go_wp2_with fail
      go_ret
      exact ⟨by rw [HE.out]; rfl, hb⟩
    · have hb1 : (x == y) = false := by simpa using he
      have HE := Hi he
      clear he
      go_wp2_with fail
      refine (NM.out _).mono ?_
      rintro e w1 ⟨rfl, rfl⟩
      go_wp2_with fail
      refine (U.out _).mono ?_
      rintro e w2 ⟨rfl, h⟩
      replace hb := hb.trans (h.mono hb.size)
      clear h
      go_wp2_with fail
      go_roundw
      case rel => exact ⟨2 * f, H2.out, by go_num, Hi (fun g hg hlt e => by
       rcases HN2.out g hg hlt with rfl | h
       · exact HE.out (HX.out.symm.trans e.symm)
       · exact hn.out g hg h e), hb⟩
      case measure => simp [intOf]; omega
theorem refFlag7_any (s : ByteArray) (hs : s.size ≤ 1000000000) (w : World) :
 Calls Tryz.prog 141 #[.string s] w fun e w' => e = .returned (.int .i64 (flagL s.data.toList : Nat)) ∧ Below w.heap.size w w' := by
 have U := Hi (fun w1 => refUpper_any s hs w1)
 obtain ⟨y, hy⟩ : ∃ y, upL s.data.toList = y := ⟨_, rfl⟩
 have HY := Hi (show flagL s.data.toList = flagU y by rw [← hy]; rfl)
 rw [hy] at U
 rw [HY.out]
 clear hy HY
 go_enter Tryz.func141, Tryz.ntmps141
 go_wp2_with fail
 go_loopw [3] (fun i wr => ∃ f : Nat, f ∈ cntI ∧ i = .int .i64 f ∧ Hid (∀ g, g ∈ ones → g < f → y ≠ upL (YX g)) ∧ Below w.heap.size w wr) (fun i _ => 32 - (intOf i).toNat)
 case atStart => exact ⟨1, by decide, rfl, Hi (fun g hg h => by rcases QG.1 hg with rfl | rfl | rfl | rfl | rfl <;> omega), Below.refl _ _⟩
 case round =>
  obtain ⟨f, hf, rfl, hn, hb⟩ := hrel
  by_cases hf32 : f = 32
  · subst hf32
    have HZ := Hi (show flagU y = 0 by
     rcases flagU_is y with h | ⟨h1, h2⟩
     · exact h
     · exact absurd h2 (hn.out _ h1 (by rcases QG.1 h1 with e | e | e | e | e <;> omega)))
    go_wp2_with fail
    go_ret
    exact ⟨by rw [HZ.out]; rfl, hb⟩
  · have ho : f ∈ ones := by
     rcases cntI_mem.1 hf with h | h | h | h | h | h
     · exact QG.2 (by omega)
     · exact QG.2 (by omega)
     · exact QG.2 (by omega)
     · exact QG.2 (by omega)
     · exact QG.2 (by omega)
     · exact absurd h hf32
    have h16 : f ≤ 16 := by rcases QG.1 ho with e | e | e | e | e <;> omega
    have h1 : 1 ≤ f := by rcases QG.1 ho with e | e | e | e | e <;> omega
    have HO := Hi ho
    have H2 := Hi (show 2 * f ∈ cntI by rcases QG.1 ho with rfl | rfl | rfl | rfl | rfl <;> decide)
    have HN2 := Hi (show ∀ g, g ∈ ones → g < 2 * f → g = f ∨ g < f from fun g hg hlt => by
     rcases QG.1 ho with rfl | rfl | rfl | rfl | rfl <;> rcases QG.1 hg with rfl | rfl | rfl | rfl | rfl <;> omega)
    have NM := Hi (fun w1 => refFName_any f w1)
    have hnl : (YX f).length ≤ 100 := by rcases QG.1 ho with rfl | rfl | rfl | rfl | rfl <;> decide
    have V := Hi (fun w1 => refUpper_any ⟨(YX f).toArray⟩ (by show (YX f).toArray.size ≤ _; simp; omega) w1)
    rw [show (ByteArray.mk (YX f).toArray).data.toList = YX f from rfl] at V
    obtain ⟨nf, hnf⟩ : ∃ nf, YX f = nf := ⟨_, rfl⟩
    rw [hnf] at V NM
    obtain ⟨x, hx⟩ : ∃ x, upL nf = x := ⟨_, rfl⟩
    rw [hx] at V
    have HX := Hi (show upL (YX f) = x by rw [hnf, hx])
    clear ho hf hnl hnf hx
    by_cases he : x = y
    · have hb1 : (x == y) = true := by simpa using he
      have HE := Hi (show flagU y = f from (flagU_eq HO.out).2 (by rw [HX.out, he]))
      clear he
      go_wp2_with fail
      refine (NM.out _).mono ?_
      rintro e w1 ⟨rfl, rfl⟩
      go_wp2_with fail
      refine (V.out _).mono ?_
      rintro e w1 ⟨rfl, h⟩
      replace hb := hb.trans (h.mono hb.size)
      clear h
      go_wp2_with fail
      refine (U.out _).mono ?_
      rintro e w2 ⟨rfl, h⟩
      replace hb := hb.trans (h.mono hb.size)
      clear h
      go_wp2_with fail
      go_ret
      exact ⟨by rw [HE.out]; rfl, hb⟩
    · have hb1 : (x == y) = false := by simpa using he
      have HE := Hi he
      clear he
      go_wp2_with fail
      refine (NM.out _).mono ?_
      rintro e w1 ⟨rfl, rfl⟩
      go_wp2_with fail
      refine (V.out _).mono ?_
      rintro e w1 ⟨rfl, h⟩
      replace hb := hb.trans (h.mono hb.size)
      clear h
      go_wp2_with fail
      refine (U.out _).mono ?_
      rintro e w2 ⟨rfl, h⟩
      replace hb := hb.trans (h.mono hb.size)
      clear h
      go_wp2_with fail
      go_roundw
      case rel => exact ⟨2 * f, H2.out, by go_num, Hi (fun g hg hlt e => by
       rcases HN2.out g hg hlt with rfl | h
       · exact HE.out (HX.out.symm.trans e.symm)
       · exact hn.out g hg h e), hb⟩
      case measure => simp [intOf]; omega
section
open Go.Lib hiding intOf
def DgAt (l : List UInt8) (k m : Nat) : Prop := ∀ j : Nat, k ≤ j → j < m → ∃ y, l[j]? = some y ∧ QC y = true
theorem DgAt.front {l : List UInt8} {p m : Nat} {y : UInt8} (h : DgAt l (p + 1) m) (hp : l[p]? = some y) (hy : QC y = true) : DgAt l p m := fun j hj hm => by
 rcases Nat.eq_or_lt_of_le hj with rfl | hlt
 · exact ⟨y, hp, hy⟩
 · exact h j hlt hm
theorem ref_ann {l : List UInt8} {k m n : Nat} (h : AnnL l n) (hlen : l.length = m + 1) (hk : k ≤ m) (hd : DgAt l k m) (hs : ∀ p y, k = p + 1 → l[p]? = some y → QC y = false) :
 ∃ p, k = p + 1 ∧ l[p]? = some 123 ∧ (l.take m).drop k = decDigits n := by
 obtain ⟨hn, pre, rfl⟩ := h
 have hm : m = pre.length + 1 + (decDigits n).length := by simp at hlen; omega
 have h123 : (pre ++ 123 :: (decDigits n ++ [125]))[pre.length]? = some 123 := by simp
 have hk2 : k = pre.length + 1 := by
  rcases Nat.lt_trichotomy k (pre.length + 1) with hlt | heq | hgt
  · obtain ⟨y, h1, h2⟩ := hd pre.length (by omega) (by omega)
    rw [h123] at h1
    obtain rfl := Option.some.inj h1
    exact absurd h2 (by decide)
  · exact heq
  · obtain ⟨p, rfl⟩ : ∃ p, k = p + 1 := ⟨k - 1, by omega⟩
    obtain ⟨i, rfl⟩ : ∃ i, p = pre.length + (i + 1) := ⟨p - pre.length - 1, by omega⟩
    have hi : i < (decDigits n).length := by omega
    have e : (pre ++ 123 :: (decDigits n ++ [125]))[pre.length + (i + 1)]? = some (decDigits n)[i] := by
     rw [List.getElem?_append_right (by omega), show pre.length + (i + 1) - pre.length = i + 1 by omega, List.getElem?_cons_succ, List.getElem?_append_left hi, List.getElem?_eq_getElem hi]
    have h1 := hs _ _ rfl e
    rw [dec_dig n _ (List.getElem_mem hi)] at h1
    cases h1
 refine ⟨pre.length, hk2, h123, ?_⟩
 subst hk2
 subst hm
 have e : pre ++ 123 :: (decDigits n ++ [125]) = (pre ++ 123 :: decDigits n) ++ [125] := by simp
 have el : (pre ++ 123 :: decDigits n).length = pre.length + 1 + (decDigits n).length := by simp; omega
 rw [e, ← el, List.take_left', show pre ++ 123 :: decDigits n = (pre ++ [123]) ++ decDigits n by simp, show pre.length + 1 = (pre ++ [123]).length by simp, List.drop_left]
 rfl
theorem offA_zero (A : Option Addr) (c : Nat) : offA A c 0 = A := by
 unfold offA
 split
 · rfl
 · rcases A with _ | ⟨b, o, s⟩ <;> simp [Addr.add]
theorem refAnnounced_any (B c n : Nat) (A : Option Addr) (l : List UInt8) (hn : l.length = n) (hl : n ≤ 1000000) (w : World) (hA : ByAt B w A c l) :
 Calls Tryz.prog 92 #[.slice A n c] w fun e w' => AnnPost l e ∧ w = w' := by
 cases n with
 | zero =>
   have HR := Hi (show IsAnn l none from fun m hm => by
    obtain ⟨_, pre, rfl⟩ := hm
    simp at hn)
   clear hA hn
   go_enter Tryz.func92, Tryz.ntmps92
   go_wp2_with fail
   go_ret2
   exact ⟨⟨none, HR.out, rfl⟩, rfl⟩
 | succ m =>
   have HA := Hi hA
   have HN := Hi hn
   have hle := hA.le
   have hmc : m ≤ c := by omega
   have hmc1 : m + 1 ≤ c := by omega
   obtain ⟨b, off, rfl, _, _, hc⟩ := hA.cell (j := m) (by omega)
   have hlm : l[m]? = some (l[m]'(by omega)) := List.getElem?_eq_getElem _
   generalize l[m]'(by omega) = z at hc hlm
   by_cases h125 : z = 125
   · subst h125
     have hc' : w.cell? ⟨b, off + m, none⟩ = some (.int .u8 125) := hc
     have HM := Hi hlm
     clear hc hA hn hlm
     go_enter Tryz.func92, Tryz.ntmps92
     go_wp2_with fail
     have hm0 : decide ((m : Int) < 0) = false := by simp
     go_loop [5] (fun i => ∃ k : Nat, k ≤ m ∧ i = .int .i64 (k : Int) ∧ Hid (DgAt l k m)) (fun i => (intOf i).toNat)
     case atStart => exact ⟨m, Nat.le_refl _, rfl, fun j h1 h2 => absurd h1 (by omega)⟩
     case round =>
      obtain ⟨k, hk, rfl, hD⟩ := hrel
      have NM := Hi (refNumber_any ⟨((l.take m).drop k).toArray⟩ (by rw [mk_size, cut_len (by rw [HN.out]; omega)]; omega) w)
      have hcv := convS B w _ (c - k) (m - k) _ (HA.out.cut (lo := k) (hi := m) hk (by rw [HN.out]; omega)) (cut_len (by rw [HN.out]; omega))
      have hsl := fun W => slice_lh (some ⟨b, off, none⟩) (m + 1) c k m hk (by rw [HN.out] at hle; omega) W
      have hse := fun x lo hi mx W => YY x lo hi mx W
      have HRA := Hi (fun n (h : AnnL l n) hs => ref_ann h HN.out hk hD.out hs)
      have HNO := Hi (fun n (h : QH ((l.take m).drop k) = some n) (p : Nat) (hp : k = p + 1) (h123 : l[p]? = some 123) => show AnnL l n from ref_ann_of HN.out (by omega) h123 HM.out (by rw [← hp]; exact h))
      rw [show (ByteArray.mk ((l.take m).drop k).toArray).data.toList = (l.take m).drop k by simp] at NM
      obtain ⟨D, hDe⟩ : ∃ D, (l.take m).drop k = D := ⟨_, rfl⟩
      rw [hDe] at NM hcv HNO
      have HRA := Hi (fun n (h : AnnL l n) hs => show ∃ p, k = p + 1 ∧ l[p]? = some 123 ∧ D = decDigits n by obtain ⟨p, a1, a2, a3⟩ := HRA.out n h hs; exact ⟨p, a1, a2, hDe.symm.trans a3⟩)
      clear hDe
      cases k with
      | zero =>
        have HR := Hi (show IsAnn l none from fun n h => by obtain ⟨p, a1, _⟩ := HRA.out n h (fun p y e => by omega); omega)
        clear HRA HNO hD
        rw [offA_zero, Nat.sub_zero, Nat.sub_zero] at hcv
        cases ho : QH D with
        | none =>
          rw [ho] at NM
          clear ho
          go_wp2_with fail
          refine NM.out.mono ?_
          rintro e w1 ⟨rfl, rfl⟩
          go_wp2_with fail
          go_ret2
          exact ⟨⟨none, HR.out, rfl⟩, rfl⟩
        | some x =>
          rw [ho] at NM
          clear ho
          go_wp2_with fail
          refine NM.out.mono ?_
          rintro e w1 ⟨rfl, rfl⟩
          go_wp2_with fail
          go_ret2
          exact ⟨⟨none, HR.out, rfl⟩, rfl⟩
      | succ p =>
        have ecast : ((p + 1 : Nat) : Int) = (p : Int) + 1 := by omega
        rw [ecast] at hsl
        rw [ecast]
        clear ecast
        have hpl : p < l.length := by rw [HN.out]; omega
        have hcp := HA.out.cell (j := p) hpl
        obtain ⟨b', off', he, _, _, hcp⟩ := hcp
        injection he with he
        injection he with he1 he2 _
        subst he1
        subst he2
        have HP := Hi (show l[p]? = some l[p] from List.getElem?_eq_getElem hpl)
        generalize l[p] = y at *
        by_cases hdy : QC y = true
        · have HN2 := Hi (hD.out.front HP.out hdy)
          have hy1 : 48 ≤ y.toNat := by unfold QC at hdy; simp at hdy; omega
          have hy2 : y.toNat ≤ 57 := by unfold QC at hdy; simp at hdy; omega
          clear hdy hsl hcv HRA HNO NM
          generalize y.toNat = yn at *
          go_wp2_with fail
          go_round
          case rel => exact ⟨p, by omega, rfl, HN2.out⟩
          case measure => simp [intOf]; omega
        · have HRA := Hi (fun n (h : AnnL l n) => HRA.out n h (fun q z e hz => by
           obtain rfl : q = p := by omega
           rw [HP.out] at hz
           obtain rfl := Option.some.inj hz
           exact Bool.eq_false_iff.2 hdy))
          have hnd : y.toNat < 48 ∨ 57 < y.toNat := by
           unfold QC at hdy
           simp at hdy
           omega
          clear hdy hD
          cases ho : QH D with
          | none =>
            have HR := Hi (show IsAnn l none from fun n h => by
             obtain ⟨_, _, _, a3⟩ := HRA.out n h
             rw [a3, numOf_dec h.1] at ho
             cases ho)
            rw [ho] at NM
            clear ho HRA HNO
            generalize y.toNat = yn at *
            rcases hnd with hnd | hnd
            · have hnd2 : ¬ 48 ≤ yn := by omega
              go_wp2_with fail
              refine NM.out.mono ?_
              rintro e w1 ⟨rfl, rfl⟩
              go_wp2_with fail
              go_ret2
              exact ⟨⟨none, HR.out, rfl⟩, rfl⟩
            · have hnd2 : ¬ yn ≤ 57 := by omega
              have hnd3 : 48 ≤ yn := by omega
              go_wp2_with fail
              refine NM.out.mono ?_
              rintro e w1 ⟨rfl, rfl⟩
              go_wp2_with fail
              go_ret2
              exact ⟨⟨none, HR.out, rfl⟩, rfl⟩
          | some x =>
            have hxle := num_le ho
            by_cases h123 : y = 123
            · subst h123
              have HR := Hi (show IsAnn l (some x) from HNO.out x ho p rfl HP.out)
              rw [ho] at NM
              have hcp' : w.cell? ⟨b, off + p, none⟩ = some (.int .u8 123) := hcp
              clear ho HRA HNO hcp hnd
              go_wp2_with fail
              refine NM.out.mono ?_
              rintro e w1 ⟨rfl, rfl⟩
              go_wp2_with fail
              go_ret2
              exact ⟨⟨some x, HR.out, rfl⟩, rfl⟩
            · have HR := Hi (show IsAnn l none from fun n h => by
               obtain ⟨q, a1, a2, _⟩ := HRA.out n h
               obtain rfl : q = p := by omega
               rw [HP.out] at a2
               exact h123 (Option.some.inj a2))
              have hz : ((y.toNat : Int) == 123) = false := by
               rw [beq_eq_false_iff_ne]
               intro e
               exact h123 (UInt8.toNat_inj.1 (by show y.toNat = 123; omega))
              have hz2 : ((y.toNat : Int) != 123) = true := by rw [bne, hz]; rfl
              rw [ho] at NM
              clear ho HRA HNO h123
              generalize y.toNat = yn at *
              rcases hnd with hnd | hnd
              · have hnd2 : ¬ 48 ≤ yn := by omega
                go_wp2_with fail
                refine NM.out.mono ?_
                rintro e w1 ⟨rfl, rfl⟩
                go_wp2_with fail
                go_ret2
                exact ⟨⟨none, HR.out, rfl⟩, rfl⟩
              · have hnd2 : ¬ yn ≤ 57 := by omega
                have hnd3 : 48 ≤ yn := by omega
                go_wp2_with fail
                refine NM.out.mono ?_
                rintro e w1 ⟨rfl, rfl⟩
                go_wp2_with fail
                go_ret2
                exact ⟨⟨none, HR.out, rfl⟩, rfl⟩
   · have HR := Hi (show IsAnn l none from fun n hm => by
      have := ann_last hm hn
      rw [hlm] at this
      exact h125 (Option.some.inj this))
     have hz : ((z.toNat : Int) == 125) = false := by
      rw [beq_eq_false_iff_ne]
      intro e
      exact h125 (UInt8.toNat_inj.1 (by show z.toNat = 125; omega))
     have hz2 : ((z.toNat : Int) != 125) = true := by rw [bne, hz]; rfl
     clear hA hn hlm h125
     generalize z.toNat = y at *
     go_enter Tryz.func92, Tryz.ntmps92
     go_wp2_with fail
     go_ret2
     exact ⟨⟨none, HR.out, rfl⟩, rfl⟩
end
end Go.Proofs.YtpgfnlhfciacoaaGreatDoor
