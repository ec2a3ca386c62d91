/- The reference's Quoted, Literal, Best. -/
import Derived.Test.YtnjmaofoalgagaaDoorAppStr
import Derived.Test.YtnjmaofoalgagaaDoorQMath
import Derived.Test.YtnjmaofoalgagaaDoorTextCls
import Derived.Test.YtnjmaofoalgagaaDoorRefDec
import Derived.Test.YtnjmaofoalgagaaDoorLit
namespace Go.Proofs.YtnjmaofoalgagaaDoor
open Go.RowKit
open Go.Lib hiding intOf

theorem cat_mk (a b : List UInt8) : ByteArray.mk a.toArray ++ ByteArray.mk b.toArray = ⟨(a ++ b).toArray⟩ := by
  apply ByteArray.ext
  simp

/-- The reference's string after one byte more. -/
theorem ref_sp (X : List UInt8) (x : UInt8) : ByteArray.mk X.toArray ++ ByteArray.mk #[92] ++ ByteArray.mk #[x] = ⟨(X ++ [92, x]).toArray⟩ := by
  have := cat_mk (X ++ [92]) [x]
  rw [← cat_mk X [92]] at this
  rw [this]
  simp

theorem ref_next {X l E : List UInt8} {k : Nat} {x : UInt8} (hX : X = 34 :: escL (l.take k)) (hE : escL (l.take (k + 1)) = escL (l.take k) ++ escC x) (hs : escC x = E) : X ++ E = 34 :: escL (l.take (k + 1)) := by
  rw [hX, hE, hs]; rfl
theorem ref_end {X l : List UInt8} (hX : X = 34 :: escL (l.take l.length)) : X ++ [34] = quotedL l := by
  rw [hX, List.take_length]; rfl

set_option maxRecDepth 100000 in
set_option maxHeartbeats 2000000 in
theorem refQuoted_go (q : List UInt8) (t : Bool) (B : Nat) (A : Option Addr) (c : Nat) (l : List UInt8) (hl : l.length ≤ 1000000) (w : World) (hA : ByAt B w A c l) (hq : Hid (t = allT l ∧ q = if allT l = true then quotedL l else [])) :
    Calls Tryd.prog 11 #[.slice A l.length c] w fun e w' => e = .returned (.tuple #[.string ⟨q.toArray⟩, .bool t]) ∧ w = w' := by
  have HA := Lib.hid hA
  have hle := hA.le
  have RT := Lib.hid (fun n h w1 => refText_any n w1 h)
  clear hA
  go_enter Tryd.func11, Tryd.ntmps11
  have hse := fun x lo hi mx W => sliceAt_eq x lo hi mx W
  go_wp2_with fail
  go_loop [4, 5] (fun o i => ∃ (k : Nat) (X : List UInt8), k ≤ l.length ∧ i = .int .i64 (k : Int) ∧ o = .string ⟨X.toArray⟩ ∧ Hid (X = 34 :: escL (l.take k)) ∧ Hid (allT (l.take k) = true)) (fun _ i => l.length - (intOf i).toNat)
  case atStart => exact ⟨0, [34], Nat.zero_le _, rfl, rfl, rfl, rfl⟩
  case round =>
    obtain ⟨k, X, hk, rfl, rfl, hX, hT⟩ := hrel
    have hXl : X.length ≤ 3000000 := by
      have h1 := congrArg List.length hX.out
      have h2 := escL_len (l.take k)
      rw [List.length_cons] at h1
      rw [List.length_take] at h2
      omega
    by_cases hlt : k < l.length
    · obtain ⟨b, off, rfl, _, _, hc⟩ := HA.out.cell hlt
      have hsl : (Instr.slice 22 (.slice (some ⟨b, off, none⟩) l.length c) (some (.int .i64 (k : Int))) (some (.int .i64 ((k : Int) + 1))) none).run Tryd.prog w = .ok (.slice (offA (some ⟨b, off, none⟩) c k) 1 (c - k)) w := by
        have := slice_lh (some ⟨b, off, none⟩) l.length c k (k + 1) (by omega) (by omega) w
        rwa [Int.natCast_add, Nat.add_sub_cancel_left] at this
      have hcut : (l.take (k + 1)).drop k = [l[k]] := by
        rw [List.take_succ_eq_append_getElem hlt, List.drop_append_of_le_length (by simp; omega)]
        simp
      have hcv := convS _ w _ (c - k) 1 _ (HA.out.cut (lo := k) (hi := k + 1) (by omega) (by omega)) (by rw [hcut]; rfl)
      rw [hcut] at hcv
      have hn : l[k].toNat ≤ 255 := by have := l[k].toNat_lt; omega
      have R := RT.out l[k].toNat hn w
      have HE := Lib.hid (escL_snoc l k hlt)
      have HXS := Lib.hid (show ∀ s : Bool, spN l[k].toNat = s → escC l[k] = if s = true then [92, l[k]] else [l[k]] from fun s hs => by unfold escC; rw [hs])
      cases ht : textN l[k].toNat with
      | false =>
        have HN := Lib.hid (allT_false l k hlt ht)
        rw [ht] at R
        have R := Lib.hid R
        clear ht hsl hcut hcv
        go_wp2_with fail
        refine R.out.mono ?_
        rintro e w1 ⟨rfl, rfl⟩
        go_wp2_with fail
        go_ret2
        exact ⟨by rw [hq.out.1, hq.out.2, HN.out]; rfl, rfl⟩
      | true =>
        have HN := Lib.hid (allT_snoc l k hlt hT.out ht)
        rw [ht] at R
        have R := Lib.hid R
        clear ht hcut
        generalize hx : l[k] = x at *
        have HXE := Lib.hid hx
        clear hx
        by_cases h34 : x.toNat = 34
        · have HS := Lib.hid (HXS.out true (by unfold spN; simp [h34]))
          have e1 : ((x.toNat : Int) == 34) = true := by simp; omega
          clear h34
          go_wp2_with fail
          refine R.out.mono ?_
          rintro e w1 ⟨rfl, rfl⟩
          go_wp2_with fail
          go_round
          case rel => exact ⟨k + 1, X ++ [92, x], by omega, by go_num, congrArg Value.string (ref_sp X x), ref_next hX.out HE.out HS.out, HN.out⟩
          case measure => simp [intOf]; omega
        · by_cases h92 : x.toNat = 92
          · have HS := Lib.hid (HXS.out true (by unfold spN; simp [h92]))
            have e1 : ((x.toNat : Int) == 34) = false := by simp; omega
            have e2 : ((x.toNat : Int) == 92) = true := by simp; omega
            clear h34 h92
            go_wp2_with fail
            refine R.out.mono ?_
            rintro e w1 ⟨rfl, rfl⟩
            go_wp2_with fail
            go_round
            case rel => exact ⟨k + 1, X ++ [92, x], by omega, by go_num, congrArg Value.string (ref_sp X x), ref_next hX.out HE.out HS.out, HN.out⟩
            case measure => simp [intOf]; omega
          · have HS := Lib.hid (HXS.out false (by unfold spN; simp [h34, h92]))
            have e1 : ((x.toNat : Int) == 34) = false := by simp; omega
            have e2 : ((x.toNat : Int) == 92) = false := by simp; omega
            clear h34 h92
            go_wp2_with fail
            refine R.out.mono ?_
            rintro e w1 ⟨rfl, rfl⟩
            go_wp2_with fail
            go_round
            case rel => exact ⟨k + 1, X ++ [x], by omega, by go_num, congrArg Value.string (cat_mk X [x]), ref_next hX.out HE.out HS.out, HN.out⟩
            case measure => simp [intOf]; omega
    · obtain rfl : k = l.length := by omega
      have HT := Lib.hid (show allT l = true by have := hT.out; rwa [List.take_length] at this)
      go_wp2_with fail
      go_ret2
      exact ⟨by rw [hq.out.1, hq.out.2, HT.out, if_pos rfl, ← ref_end hX.out]; exact congrArg (fun z => Ending.returned (.tuple #[.string z, .bool true])) (cat_mk X [34]), rfl⟩
theorem refQuoted_any (B : Nat) (A : Option Addr) (c : Nat) (l : List UInt8) (hl : l.length ≤ 1000000) (w : World) (hA : ByAt B w A c l) :
    Calls Tryd.prog 11 #[.slice A l.length c] w fun e w' => e = .returned (.tuple #[.string ⟨(if allT l = true then quotedL l else []).toArray⟩, .bool (allT l)]) ∧ w = w' :=
  refQuoted_go _ _ B A c l hl w hA ⟨rfl, rfl⟩

set_option maxRecDepth 100000 in
set_option maxHeartbeats 2000000 in
theorem refLiteral_any (B : Nat) (A : Option Addr) (c : Nat) (l : List UInt8) (hl : l.length ≤ 1000000) (w : World) (hA : ByAt B w A c l) :
    Calls Tryd.prog 14 #[.slice A l.length c] w fun e w' => ∃ A' c', e = .returned (.slice A' (literalL l).length c') ∧ ByAt w'.heap.size w' A' c' (literalL l) ∧ Below w.heap.size w w' := by
  have D := Lib.hid (refDecimal_any l.length (by omega) w)
  have HA := Lib.hid hA
  have hdl := dec_len (u := l.length) (by omega)
  have HL := Lib.hid (show literalL l = (123 :: (decDigits l.length ++ [125, 13, 10])) ++ l from rfl)
  have HLL := Lib.hid (show (literalL l).length = 1 + (decDigits l.length).length + 3 + l.length by rw [HL.out]; simp; omega)
  clear hA
  generalize decDigits l.length = d at *
  generalize literalL l = L at *
  obtain ⟨cap, w3, hcs, h3, _, hcap, hw3, hrow⟩ := convB w (ByteArray.mk #[123] ++ ByteArray.mk d.toArray ++ ByteArray.mk #[125, 13, 10]) _ (headS_size d)
  have HROW := Lib.hid hrow
  have HSZ := Lib.hid (headS_size d)
  obtain ⟨n, hn⟩ : ∃ n, 1 + d.length + 3 + l.length = n := ⟨_, rfl⟩
  have HN := Lib.hid hn
  rw [hn] at HLL
  clear hn hrow hw3
  go_enter Tryd.func14, Tryd.ntmps14
  go_wp2_with fail
  refine D.out.mono ?_
  rintro e w1 ⟨rfl, rfl⟩
  clear D
  go_wp2_with (at_builtin; refine wpList_append_str rfl _ _ rfl w.heap.size cap _ _ HSZ.out hcap rfl HROW.out B A c l rfl (HA.out.grow h3) (by omega) n HN.out ?_; intro A' c' w4 hR h4)
  have HR := Lib.hid hR.out
  rw [headS_list, ← HL.out] at HR
  have hB := h3.trans h4
  clear hR h4 h3 hcs
  go_wp2_with fail
  go_ret
  exact ⟨_, _, by rw [HLL.out]; rfl, HR.out, hB⟩

set_option maxRecDepth 100000 in
set_option maxHeartbeats 2000000 in
theorem refBest_any (B : Nat) (A : Option Addr) (c : Nat) (l : List UInt8) (hl : l.length ≤ 1000000) (w : World) (hA : ByAt B w A c l) :
    Calls Tryd.prog 16 #[.slice A l.length c] w fun e w' => ∃ A' c', e = .returned (.slice A' (bestL l).length c') ∧ ByAt w'.heap.size w' A' c' (bestL l) ∧ Below w.heap.size w w' := by
  have Q := refQuoted_any B A c l hl w hA
  cases ha : allT l with
  | true =>
    have HB := Lib.hid (show bestL l = quotedL l by unfold bestL; rw [if_pos ha])
    rw [ha, if_pos rfl] at Q
    have Q := Lib.hid Q
    generalize bestL l = L at *
    generalize quotedL l = q at *
    obtain rfl := HB.out
    clear ha hA HB
    obtain ⟨cap, w3, hcs, hB3, hP, hcap, hw3, _⟩ := convB w ⟨L.toArray⟩ L.length (by show L.toArray.size = _; simp)
    have HP := Lib.hid hP
    clear hP hw3
    go_enter Tryd.func16, Tryd.ntmps16
    go_wp2_with fail
    refine Q.out.mono ?_
    rintro e w1 ⟨rfl, rfl⟩
    clear Q
    go_wp2_with fail
    go_ret
    exact ⟨_, _, rfl, HP.out, hB3⟩
  | false =>
    have HB := Lib.hid (show bestL l = literalL l by unfold bestL; rw [if_neg (by simp [ha])])
    rw [ha, if_neg (by simp)] at Q
    have Q := Lib.hid Q
    have L1 := Lib.hid (refLiteral_any B A c l hl w hA)
    generalize bestL l = L at *
    generalize literalL l = q at *
    obtain rfl := HB.out
    clear ha hA HB
    go_enter Tryd.func16, Tryd.ntmps16
    go_wp2_with fail
    refine Q.out.mono ?_
    rintro e w1 ⟨rfl, rfl⟩
    go_wp2_with fail
    refine L1.out.mono ?_
    rintro e w2 ⟨A', c', rfl, hR, h2⟩
    have HR := Lib.hid hR
    clear Q L1 hR
    go_wp2_with fail
    go_ret
    exact ⟨_, _, rfl, HR.out, h2⟩
end Go.Proofs.YtnjmaofoalgagaaDoor
