/- The reference's Decimal and Number. -/
import Derived.Test.YtpoejnajnaolpaaGreatDoorGb
import Derived.Test.YtpoejnajnaolpaaGreatDoorGa
import Derived.Test.YtpoejnajnaolpaaGreatDoorGc
namespace Go.Proofs.YtpoejnajnaolpaaGreatDoor
open Go.RowKit
open Go.Lib hiding intOf

set_option maxRecDepth 100000 in
set_option maxHeartbeats 400000 in
theorem refDecimal_any (u : Nat) (hu : u ≤ 4294967295) (w : World) :
    Calls Tryz.prog 61 #[.int .u32 u] w fun e w' => e = .returned (.string ⟨(decDigits u).toArray⟩) ∧ w = w' := by
  go_enter Tryz.func61, Tryz.ntmps61
  go_wp2_with fail
  go_loop [0, 3] (fun n s => ∃ (m : Nat) (acc : List UInt8), m ≤ u ∧ n = .int .u32 m ∧ s = .string ⟨acc.toArray⟩ ∧ decDigits m ++ acc = decDigits u) (fun n _ => (intOf n).toNat)
  case atStart => exact ⟨u, [], Nat.le_refl _, rfl, rfl, by simp⟩
  case round =>
    obtain ⟨m, acc, hm, rfl, rfl, he⟩ := hrel
    have HE := Lib.hid he
    clear he
    have hal : acc.length ≤ 10 := by
      have h1 := congrArg List.length HE.out
      have h2 := dec_len hu
      rw [List.length_append] at h1
      omega
    by_cases hlt : 10 ≤ m
    · go_wp2_with fail
      go_round
      case rel => exact ⟨m / 10, _, by omega, by go_num, congrArg Value.string (dec_front (m % 10) (by omega) acc), dec_step HE.out hlt⟩
      case measure => simp [intOf]; omega
    · go_wp2_with fail
      go_ret
      exact ⟨by rw [← dec_last HE.out hlt, ← dec_front m (by omega) acc]; rfl, rfl⟩
end Go.Proofs.YtpoejnajnaolpaaGreatDoor

namespace Go.Proofs.YtpoejnajnaolpaaGreatDoor
open Go.RowKit
open Go.Lib hiding intOf

theorem cat_mk (a b : List UInt8) : ByteArray.mk a.toArray ++ ByteArray.mk b.toArray = ⟨(a ++ b).toArray⟩ := by
  apply ByteArray.ext
  simp

set_option maxRecDepth 100000 in
set_option maxHeartbeats 2000000 in
theorem refLiteral_any (B : Nat) (A : Option Addr) (c : Nat) (l : List UInt8) (hl : l.length ≤ 1000000) (w : World) (hA : ByAt B w A c l) :
    Calls Tryz.prog 65 #[.slice A l.length c] w fun e w' => ∃ A' c', e = .returned (.slice A' (literalL l).length c') ∧ ByAt w'.heap.size w' A' c' (literalL l) ∧ Below w.heap.size w w' := by
  have D := Lib.hid (refDecimal_any l.length (by omega) w)
  have HA := Lib.hid hA
  have hdl := dec_len (u := l.length) (by omega)
  have HL := Lib.hid (show literalL l = (123 :: (decDigits l.length ++ [125, 13, 10])) ++ l from rfl)
  have HLL := Lib.hid (show (literalL l).length = 1 + (decDigits l.length).length + 3 + l.length by rw [HL.out]; simp; omega)
  clear hA
  generalize decDigits l.length = d at *
  generalize literalL l = L at *
  obtain ⟨cap, w3, hcs, h3, _, hcap, hw3, hrow⟩ := convB w (ByteArray.mk #[123] ++ ByteArray.mk d.toArray ++ ByteArray.mk #[125, 13, 10]) _ (headS_size d)
  have HROW := Lib.hid hrow
  have HSZ := Lib.hid (headS_size d)
  obtain ⟨n, hn⟩ : ∃ n, 1 + d.length + 3 + l.length = n := ⟨_, rfl⟩
  have HN := Lib.hid hn
  rw [hn] at HLL
  clear hn hrow hw3
  go_enter Tryz.func65, Tryz.ntmps65
  go_wp2_with fail
  refine D.out.mono ?_
  rintro e w1 ⟨rfl, rfl⟩
  clear D
  go_wp2_with (at_builtin; refine wpList_append_str rfl _ _ rfl w.heap.size cap _ _ HSZ.out hcap rfl HROW.out B A c l rfl (HA.out.grow h3) (by omega) n HN.out ?_; intro A' c' w4 hR h4)
  have HR := Lib.hid hR.out
  rw [headS_list, ← HL.out] at HR
  have hB := h3.trans h4
  clear hR h4 h3 hcs
  go_wp2_with fail
  go_ret
  exact ⟨_, _, by rw [HLL.out]; rfl, HR.out, hB⟩

end Go.Proofs.YtpoejnajnaolpaaGreatDoor

namespace Go.Proofs.YtpoejnajnaolpaaGreatDoor
open Go.RowKit

/-- What is written behind k bits, the bit o by the name nm o. -/
def bitsK (f k : Nat) : List Nat := (ones.take k).filter fun o => f &&& o != 0
def spG (nm : Nat → List UInt8) (f k : Nat) : List UInt8 := spL ((bitsK f k).map nm)
theorem bitsK_succ {f k o : Nat} (ho : ones[k]? = some o) : bitsK f (k + 1) = bitsK f k ++ (if f &&& o = 0 then [] else [o]) := by
  unfold bitsK
  have hk : k < ones.length := (List.getElem?_eq_some_iff.1 ho).1
  have hget : ones[k] = o := (List.getElem?_eq_some_iff.1 ho).2
  rw [List.take_succ_eq_append_getElem hk, List.filter_append, hget]
  by_cases h : f &&& o = 0 <;> simp [h]
theorem spG_no {nm : Nat → List UInt8} {f k o : Nat} (ho : ones[k]? = some o) (h : f &&& o = 0) : spG nm f (k + 1) = spG nm f k := by
  unfold spG
  rw [bitsK_succ ho, if_pos h, List.append_nil]
theorem spG_yes {nm : Nat → List UInt8} (hn : ∀ x ∈ ones, nm x ≠ []) {f k o : Nat} (ho : ones[k]? = some o) (h : f &&& o ≠ 0) : spG nm f (k + 1) = if spG nm f k = [] then nm o else spG nm f k ++ 32 :: nm o := by
  have hm : ∀ x ∈ bitsK f k, x ∈ ones := fun x hx => List.take_subset _ _ (List.mem_filter.1 hx).1
  unfold spG
  rw [bitsK_succ ho, if_neg h, List.map_append]
  by_cases he : bitsK f k = []
  · rw [he]
    exact spL_one _
  · have hne : (bitsK f k).map nm ≠ [] := by simpa using he
    rw [if_neg, List.map_cons, List.map_nil, spL_snoc hne]
    intro e
    cases hx : bitsK f k with
    | nil => exact he hx
    | cons a r =>
      rw [hx, List.map_cons] at e
      unfold spL at e
      rw [Lib.join_cons] at e
      have := List.append_eq_nil_iff.1 e
      exact hn a (hm a (by rw [hx]; simp)) this.1
theorem spG_all (nm : Nat → List UInt8) (f : Nat) : spG nm f 5 = spL ((eachL f).map nm) := rfl
/-- The k-th bit. -/
def bitAtK (k o : Nat) : Prop := k ≤ 5 ∧ o = 2 ^ k
theorem bitAtK.ones {k o : Nat} (h : bitAtK k o) (h16 : o ≤ 16) : ones[k]? = some o ∧ bitAtK (k + 1) (2 * o) ∧ k ≤ 4 := by
  obtain ⟨hk, rfl⟩ := h
  have h5 : k = 0 ∨ k = 1 ∨ k = 2 ∨ k = 3 ∨ k = 4 ∨ k = 5 := by omega
  rcases h5 with rfl | rfl | rfl | rfl | rfl | rfl
  all_goals first
    | exact ⟨rfl, ⟨by omega, rfl⟩, by omega⟩
    | (exfalso; revert h16; decide)
theorem bitAtK.last {k o : Nat} (h : bitAtK k o) (h16 : ¬ o ≤ 16) : k = 5 := by
  obtain ⟨hk, rfl⟩ := h
  have h5 : k = 0 ∨ k = 1 ∨ k = 2 ∨ k = 3 ∨ k = 4 ∨ k = 5 := by omega
  rcases h5 with rfl | rfl | rfl | rfl | rfl | rfl
  all_goals first
    | rfl
    | (exfalso; apply h16; decide)
end Go.Proofs.YtpoejnajnaolpaaGreatDoor

namespace Go.Proofs.YtpoejnajnaolpaaGreatDoor
open Go.RowKit

set_option maxRecDepth 100000 in
theorem refFName_any (n : Nat) (w : World) :
    Calls Tryz.prog 66 #[.int .i64 n] w fun e w' => e = .returned (.string ⟨(nameF n).toArray⟩) ∧ w = w' := by
  by_cases h1 : n = 1
  · subst h1
    go_enter Tryz.func66, Tryz.ntmps66
    go_wp2
    go_ret
    exact ⟨rfl, rfl⟩
  by_cases h2 : n = 2
  · subst h2
    go_enter Tryz.func66, Tryz.ntmps66
    go_wp2
    go_ret
    exact ⟨rfl, rfl⟩
  by_cases h4 : n = 4
  · subst h4
    go_enter Tryz.func66, Tryz.ntmps66
    go_wp2
    go_ret
    exact ⟨rfl, rfl⟩
  by_cases h8 : n = 8
  · subst h8
    go_enter Tryz.func66, Tryz.ntmps66
    go_wp2
    go_ret
    exact ⟨rfl, rfl⟩
  by_cases h16 : n = 16
  · subst h16
    go_enter Tryz.func66, Tryz.ntmps66
    go_wp2
    go_ret
    exact ⟨rfl, rfl⟩
  have R := Lib.hid (show nameF n = [] by unfold nameF; rw [if_neg h1, if_neg h2, if_neg h4, if_neg h8, if_neg h16])
  have b1 : ((n : Int) == 1) = false := by simp; omega
  have b2 : ((n : Int) == 2) = false := by simp; omega
  have b4 : ((n : Int) == 4) = false := by simp; omega
  have b8 : ((n : Int) == 8) = false := by simp; omega
  have b16 : ((n : Int) == 16) = false := by simp; omega
  go_enter Tryz.func66, Tryz.ntmps66
  go_wp2
  go_ret
  exact ⟨by rw [R.out]; rfl, rfl⟩
end Go.Proofs.YtpoejnajnaolpaaGreatDoor

namespace Go.Proofs.YtpoejnajnaolpaaGreatDoor
open Go.RowKit Go.Maps

set_option maxRecDepth 100000 in
set_option maxHeartbeats 2000000 in
theorem refList8_any (f : Nat) (hf : f < 256) (w : World) :
    Calls Tryz.prog 47 #[.int .i64 f] w fun e w' => e = .returned (.string ⟨(listL f).toArray⟩) ∧ w = w' := by
  have NM := Lib.hid (fun n w1 => refFName_any n w1)
  go_enter Tryz.func47, Tryz.ntmps47
  go_wp2_with fail
  go_loop [3, 4] (fun t i => ∃ (k o : Nat) (T : ByteArray), Hid (bitAtK k o ∧ T.data.toList = spG nameF f k) ∧ 1 ≤ o ∧ o ≤ 32 ∧ i = .int .i64 (o : Int) ∧ t = .string T ∧ T.size ≤ 12 * k ∧ k ≤ 5) (fun _ i => 64 - (intOf i).toNat)
  case atStart => exact ⟨0, 1, ⟨#[]⟩, Lib.hid ⟨⟨by omega, rfl⟩, rfl⟩, by omega, by omega, rfl, rfl, by decide, by omega⟩
  case round =>
    obtain ⟨k, o, T, HK, h1, h32, rfl, rfl, hT, hk⟩ := hrel
    by_cases h16 : o ≤ 16
    · obtain ⟨hon, hnx, h4⟩ := HK.out.1.ones h16
      have HN := Lib.hid hnx
      have hc : (o : Int) ≤ 16 := by omega
      have hc1 : (1 : Int) ≤ (o : Int) := by omega
      by_cases ht : f &&& o = 0
      · have hb1 : (bits BinOp.and IntKind.i64 (f : Int) (o : Int) == 0) = true := bit64_yes (o := o) hf (by omega) ht
        have HS := Lib.hid (spG_no (nm := nameF) hon ht)
        clear ht hon hnx
        go_wp2_with fail
        go_round
        case rel => exact ⟨k + 1, 2 * o, T, Lib.hid ⟨HN.out, by rw [HK.out.2, HS.out]⟩, by omega, by omega, by go_num, rfl, by omega, by omega⟩
        case measure => simp [intOf]; omega
      · have hb1 : (bits BinOp.and IntKind.i64 (f : Int) (o : Int) == 0) = false := bit64_no (o := o) hf (by omega) ht
        have HS := Lib.hid (spG_yes (nm := nameF) (fun x hx => name_ne hx) hon ht)
        have hl := name_len o
        have hsz : (ByteArray.mk (nameF o).toArray).size ≤ 9 := by show (nameF o).toArray.size ≤ 9; simpa using hl
        have HD := Lib.hid (show (ByteArray.mk (nameF o).toArray).data.toList = nameF o from rfl)
        have NMo := Lib.hid (fun w1 => NM.out o w1)
        generalize ByteArray.mk (nameF o).toArray = nb at *
        clear ht hon hnx hl
        have z1 : (ByteArray.mk #[32]).size = 1 := rfl
        by_cases he : T.data.toList = []
        · have hS := Lib.hid (show nb.data.toList = spG nameF f (k + 1) by rw [HS.out, ← HK.out.2, if_pos he, HD.out])
          obtain rfl := str_of he
          clear he HS HK
          go_wp2_with fail
          refine (NMo.out _).mono ?_
          rintro e w1 ⟨rfl, rfl⟩
          go_wp2_with fail
          go_round
          case rel => exact ⟨k + 1, 2 * o, _, Lib.hid ⟨HN.out, by rw [← hS.out]; simp [ByteArray.data_append]⟩, by omega, by omega, by go_num, rfl, by simp [ByteArray.size_append]; omega, by omega⟩
          case measure => simp [intOf]; omega
        · have hS := Lib.hid (show T.data.toList ++ 32 :: nb.data.toList = spG nameF f (k + 1) by rw [HS.out, ← HK.out.2, if_neg he, HD.out])
          have h1' : T.toList.isEmpty = false := by rw [btl]; simpa using he
          have h2 : ¬ T.toList = [] := by rw [btl]; exact he
          clear he HS HK
          go_wp2_with fail
          refine (NMo.out _).mono ?_
          rintro e w1 ⟨rfl, rfl⟩
          go_wp2_with fail
          go_round
          case rel => exact ⟨k + 1, 2 * o, _, Lib.hid ⟨HN.out, by rw [← hS.out]; simp [ByteArray.data_append]⟩, by omega, by omega, by go_num, rfl, by simp only [ByteArray.size_append, z1]; omega, by omega⟩
          case measure => simp [intOf]; omega
    · obtain rfl := HK.out.1.last h16
      have HE := Lib.hid (show T.data.toList = spL ((eachL f).map nameF) from HK.out.2)
      have hc : ¬ (o : Int) ≤ 16 := by omega
      have hc2 : decide ((o : Int) ≤ 16) = false := by simpa using hc
      clear HK hk
      go_wp2_with fail
      go_ret
      refine ⟨ret_str (str_of ?_), rfl⟩
      simp only [ByteArray.data_append, Array.toList_append, HE.out]
      rfl

end Go.Proofs.YtpoejnajnaolpaaGreatDoor
