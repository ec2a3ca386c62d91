/- The walk of the law IndexRemoves. -/
import Derived.Test.YtkehlknnonppjaaL12P
namespace Go.Proofs.Ytkehlknnonppjaa
open Go.RowKit

theorem cnt_mid (a b : List Nat) (x v : Nat) : cntL (a ++ x :: b) v = cntL a v + (if v ≤ x then 0 else 1) + cntL b v := by
  unfold cntL
  rw [List.countP_append, List.countP_cons]
  by_cases h : v ≤ x <;> simp [h] <;> omega
/-- The places behind the removal of place i. -/
theorem pos_rem {O : List Nat} (ha : O.Pairwise (· < ·)) {i j : Nat} (hi : i < O.length) (hj : j < O.length) : posL (remL O O[i]) O[j] = if j = i then 0 else if i < j then j else j + 1 := by
  have hmem : ∀ y, y ∈ remL O O[i] ↔ y ∈ O ∧ ¬ y = O[i] := fun y => by unfold remL; rw [List.mem_filter]; simp
  have hne : ∀ a b, (h1 : a < O.length) → (h2 : b < O.length) → O[a] = O[b] → a = b := fun a b h1 h2 e => by
    have e1 := cnt_at ha h1
    have e2 := cnt_at ha h2
    rw [e] at e1
    omega
  by_cases hji : j = i
  · subst hji
    rw [if_pos rfl]
    exact if_neg (fun h => ((hmem _).1 h).2 rfl)
  · rw [if_neg hji]
    unfold posL
    rw [if_pos ((hmem _).2 ⟨List.getElem_mem hj, fun e => hji (hne j i hj hi e)⟩)]
    have hcj := cnt_at ha hj
    obtain ⟨a, b, hl, h1, h2, hk⟩ := asc_split ha (List.getElem_mem hi)
    have hrem := rem_split hl h1 h2
    have hlt : i < j ↔ ¬ O[j] ≤ O[i] := by
      rcases Nat.lt_trichotomy i j with h | h | h
      · have := List.pairwise_iff_getElem.1 ha i j hi hj h
        omega
      · omega
      · have := List.pairwise_iff_getElem.1 ha j i hj hi h
        omega
    have e2 : cntL O O[j] = cntL a O[j] + (if O[j] ≤ O[i] then 0 else 1) + cntL b O[j] := (congrArg (fun L => cntL L O[j]) hl).trans (cnt_mid a b O[i] O[j])
    have e3 : cntL (remL O O[i]) O[j] = cntL a O[j] + cntL b O[j] := by
      rw [hrem]
      unfold cntL
      rw [List.countP_append]
    rw [e3]
    by_cases h3 : O[j] ≤ O[i]
    · rw [if_pos h3] at e2
      rw [if_neg (fun h => hlt.1 h h3)]
      omega
    · rw [if_neg h3] at e2
      rw [if_pos (hlt.2 h3)]
      omega
theorem rem_len {O : List Nat} (ha : O.Pairwise (· < ·)) {i : Nat} (hi : i < O.length) : (remL O O[i]).length + 1 = O.length := by
  obtain ⟨a, b, hl, h1, h2, _⟩ := asc_split ha (List.getElem_mem hi)
  have h3 := congrArg List.length hl
  rw [rem_split hl h1 h2]
  simp at h3 ⊢
  omega
/-- [:hi] of whatever slice of numbers. -/
theorem sliceU_hA (A : Option Addr) (n c hi : Nat) (h : hi ≤ c) (W : World) : (Instr.slice 22 (.slice A n c) none (some (.int .i64 (hi : Int))) none).run Try.prog W = .ok (.slice A hi c) W := by
  rw [run_slice_h W _ A n c undU .i64 hi (by omega) (by omega), sizeU]
  have e : (if c = 0 then A else A.map (·.add (0 * 1))) = A := by
    split
    · rfl
    · rcases A with _ | ⟨b, o, s⟩ <;> simp [Addr.add]
  conv => rhs; rw [← e]
  rfl

set_option maxRecDepth 100000 in
set_option maxHeartbeats 2000000 in
theorem indexRemoves_any (A : Option Addr) (c : Nat) (l : List Nat) (hcl : l.length ≤ c) (hlm : l.length ≤ maxLen) (hb : ∀ n ∈ l, n ≤ 4294967295) (q : Nat) (hq : q ≤ 255) (w : World) (hS : SlAt encU 1 w A l) :
    Calls Try.prog 6 #[.slice A l.length c, .int .u8 q] w fun e w' => e = .returned (.bool true) ∧ Below w.heap.size w w' := by
  have AL := fun W => Lib.hid (alive12_any W)
  have hse := fun x lo hi mx W => sliceU_at x lo hi mx W
  unfold maxLen at hlm
  by_cases h100 : l.length ≤ 100
  · have hg : ¬ (100 : Int) < (l.length : Int) := by omega
    have hmin : min (l.length : Int) 100 = (l.length : Int) := by omega
    have hs1 := fun W => sliceU_hA A l.length c l.length hcl W
    obtain ⟨O, hO, hOl⟩ := isSet_ex l
    have RN := Lib.hid (rnew_any (A := A) (c := c) O (by omega) hb hO hS)
    have NW := Lib.hid (fun w1 (h : Below w.heap.size w w1) => new_any A c l O (by omega) hb hO w1 (hS.below h))
    have HA := Lib.hid hO.1
    clear hS hb hO
    go_enter Try.func6, Try.ntmps6
    go_wp2_with fail
    refine RN.out.mono ?_
    rintro e w1 ⟨v1, rfl, ho1, hb1⟩
    obtain ⟨A1, c1, rfl⟩ := own_any ho1
    have S1 := Lib.hid (SlAt.of_own encU_len ho1)
    have B1 := Lib.hid hb1
    have N1 := Lib.hid (NW.out w1 hb1)
    clear RN NW ho1 hb1
    by_cases h0 : O.length = 0
    · go_wp2_with fail
      refine (AL _).out.mono ?_
      rintro e w3 ⟨rfl, hb3⟩
      have hb3 := Lib.hid (below_next B1.out hb3)
      go_wp2_with fail
      go_ret
      exact ⟨rfl, hb3.out⟩
    · obtain ⟨i, hi, hil⟩ : ∃ i : Nat, ((q : Int) % (O.length : Int)) = (i : Int) ∧ i < O.length := ⟨q % O.length, rfl, Nat.mod_lt _ (by omega)⟩
      have h0i : ((O.length : Int) == 0) = false := beq_eq_false_iff_ne.2 (by omega)
      go_wp2_with fail
      refine N1.out.mono ?_
      rintro e w2 ⟨g, r, rfl, hgw, hrw, X2, hB2⟩
      have B2 := hB2
      obtain ⟨b, off, rfl, hbs, hx1⟩ := S1.out.one hil
      have RV := ixremove_any O[i] X2.out
      rw [posL_at HA.out hil] at RV
      have hRL := rem_len HA.out hil
      have PR := Lib.hid (fun j (hj : j < O.length) => pos_rem HA.out hil hj)
      have RR := Lib.hid (show posL (remL O O[i]) O[i] = 0 ∧ remL (remL O O[i]) O[i] = remL O O[i] by
        have hn : ¬ O[i] ∈ remL O O[i] := fun h => by
          have := (List.mem_filter.1 h).2
          simp at this
        exact ⟨if_neg hn, rem_not hn⟩)
      generalize remL O O[i] = Q at *
      obtain ⟨x, hxe⟩ : ∃ x, x = O[i] := ⟨_, rfl⟩
      rw [← hxe] at hx1 RV RR
      have RV := Lib.hid RV
      have hx2 := (B2.out.cell (p := ⟨b, off + i, none⟩) hbs).trans hx1
      have HX1 := Lib.hid hx1
      clear hxe N1 hx1 hB2 X2
      go_wp2_with fail
      refine RV.out.mono ?_
      rintro e w3 ⟨rfl, X3, T3⟩
      have B3 := Lib.hid (B2.out.trans (T3.out.below hgw hrw B2.out.size))
      have hx3 := (B3.out.cell (p := ⟨b, off + i, none⟩) hbs).trans HX1.out
      have R3 := ixremove_any x X3.out
      rw [RR.out.1, RR.out.2] at R3
      have R3 := Lib.hid R3
      clear RV T3 B2 hx2 X3
      go_wp2_with fail
      refine R3.out.mono ?_
      rintro e w4 ⟨rfl, X4, T4⟩
      have B4 := Lib.hid (B3.out.trans (T4.out.below hgw hrw B3.out.size))
      clear R3 T4 B3 hx3 RR HX1
      have e0 : (O.length : Int) - 1 = (Q.length : Int) := by omega
      go_wp2_with fail
      go_loopw [55] (fun s55 wr => ∃ k : Nat, s55 = .int .i64 k ∧ k ≤ O.length ∧ Hid (Ix g r Q wr) ∧ Hid (Below w1.heap.size w1 wr)) (fun s55 _ => O.length - (intOf s55).toNat)
      case atStart => exact ⟨0, rfl, Nat.zero_le _, X4, B4⟩
      case round =>
        obtain ⟨k, rfl, hk, XK, BK⟩ := hrel
        clear X4 B4
        by_cases hlt : k < O.length
        · obtain ⟨b', off', hA', hbs', hx⟩ := (S1.out.below BK.out).one hlt
          obtain ⟨rfl, rfl⟩ : b = b' ∧ off = off' := by
            injection hA' with hA'
            injection hA' with h1 h2
            exact ⟨h1, h2⟩
          have PK := pos_any O[k] XK.out
          rw [PR.out k hlt] at PK
          clear hA'
          generalize O[k] = y at *
          rcases Nat.lt_trichotomy k i with hki | hki | hki
          · rw [if_neg (by omega), if_neg (by omega)] at PK
            have PK := Lib.hid PK
            have n1 : ((k : Int) == (i : Int)) = false := by simp; omega
            have n2 : ¬ (i : Int) < (k : Int) := by omega
            go_wp2_with fail
            refine PK.out.mono ?_
            rintro e w5 ⟨rfl, hb5⟩
            have X5 := Lib.hid (XK.out.below hb5)
            have B5 := Lib.hid (BK.out.trans (hb5.mono BK.out.size))
            clear PK XK BK hb5 hx
            go_wp2_with fail
            go_roundw
            case rel => exact ⟨k + 1, by go_num, by omega, X5, B5⟩
            case measure => simp [intOf]; omega
          · rw [if_pos hki] at PK
            subst hki
            have PK := Lib.hid PK
            have n1 : ((k : Int) == (k : Int)) = true := by simp
            have n2 : ¬ (k : Int) < (k : Int) := by omega
            go_wp2_with fail
            refine PK.out.mono ?_
            rintro e w5 ⟨rfl, hb5⟩
            have X5 := Lib.hid (XK.out.below hb5)
            have B5 := Lib.hid (BK.out.trans (hb5.mono BK.out.size))
            clear PK XK BK hb5 hx
            go_wp2_with fail
            go_roundw
            case rel => exact ⟨k + 1, by go_num, by omega, X5, B5⟩
            case measure => simp [intOf]; omega
          · rw [if_neg (by omega), if_pos hki] at PK
            have PK := Lib.hid PK
            have n1 : ((k : Int) == (i : Int)) = false := by simp; omega
            have n2 : (i : Int) < (k : Int) := by omega
            go_wp2_with fail
            refine PK.out.mono ?_
            rintro e w5 ⟨rfl, hb5⟩
            have X5 := Lib.hid (XK.out.below hb5)
            have B5 := Lib.hid (BK.out.trans (hb5.mono BK.out.size))
            clear PK XK BK hb5 hx
            go_wp2_with fail
            go_roundw
            case rel => exact ⟨k + 1, by go_num, by omega, X5, B5⟩
            case measure => simp [intOf]; omega
        · have LK := Lib.hid (fun w9 (hb : Below wr.heap.size wr w9) => ixlen_any (XK.out.below hb))
          clear PR
          go_wp2_with fail
          refine (AL _).out.mono ?_
          rintro e w5 ⟨rfl, hb5⟩
          have L5 := Lib.hid (LK.out w5 hb5)
          have B5 := Lib.hid (below_next B1.out ((BK.out.trans (hb5.mono BK.out.size))))
          clear LK hb5 XK BK
          go_wp2_with fail
          refine L5.out.mono ?_
          rintro e w6 ⟨rfl, rfl⟩
          go_wp2_with fail
          go_ret
          exact ⟨rfl, B5.out⟩
  · have hg : (100 : Int) < (l.length : Int) := by omega
    have hmin : min (l.length : Int) 100 = 100 := by omega
    have hs1 : ∀ W : World, (Instr.slice 22 (.slice A l.length c) none (some (.int .i64 100)) none).run Try.prog W = .ok (.slice A 100 c) W := fun W => sliceU_hA A l.length c 100 (by omega) W
    have hl9 : (l.take 100).length = 100 := by rw [List.length_take]; omega
    obtain ⟨O, hO, hOl⟩ := isSet_ex (l.take 100)
    have RN := rnew_any (A := A) (c := c) O (by omega) (fun n hn => hb n (List.mem_of_mem_take hn)) hO (slAt_take1 hS 100)
    rw [hl9] at RN
    have RN := Lib.hid RN
    clear hS hb hO
    go_enter Try.func6, Try.ntmps6
    go_wp2_with fail
    refine RN.out.mono ?_
    rintro e w1 ⟨v1, rfl, ho1, hb1⟩
    obtain ⟨A1, c1, rfl⟩ := own_any ho1
    have B1 := Lib.hid hb1
    clear RN ho1 hb1
    go_wp2_with fail
    refine (AL _).out.mono ?_
    rintro e w3 ⟨rfl, hb3⟩
    have hb3 := Lib.hid (below_next B1.out hb3)
    go_wp2_with fail
    go_ret
    exact ⟨rfl, hb3.out⟩
end Go.Proofs.Ytkehlknnonppjaa
