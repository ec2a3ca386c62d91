/- The reference of layer 10: Parse. -/
import Derived.Test.YtpoejnajnaolpaaGreatDoorRf10G
import Derived.Test.YtpoejnajnaolpaaGreatDoorRpPa
import Derived.Test.YtpoejnajnaolpaaGreatDoorRsRefV4
import Derived.Test.YtpoejnajnaolpaaGreatDoorRsRefF
import Derived.Test.YtpoejnajnaolpaaGreatDoorGj
namespace Go.Proofs.YtpoejnajnaolpaaGreatDoor
open Go.RowKit

/-- What stands at a place is what is guessed there. -/
theorem rp_guess {s : List UInt8} {r : RI} (h : RpAt s r) : guessM litO s = r := by
  obtain ⟨hi, ho, t, rfl⟩ := h
  exact guess_form (fun b post hb => lit_is hb post) hi ho t
theorem rp_yes {s : List UInt8} (hi : RIok (guessM litO s)) (ho : rsOk (guessM litO s) = true) (hp : (rsForm (guessM litO s)).isPrefixOf s = true) : RpAt s (guessM litO s) := by
  rw [List.isPrefixOf_iff_prefix] at hp
  obtain ⟨t, ht⟩ := hp
  exact ⟨hi, ho, t, ht.symm⟩
theorem rp_no {s : List UInt8} (h : rsOk (guessM litO s) = true → (rsForm (guessM litO s)).isPrefixOf s = false) : ∀ r, ¬ RpAt s r := by
  intro r hr
  have e := rp_guess hr
  rw [e] at h
  obtain ⟨_, ho, t, rfl⟩ := hr
  have := h ho
  rw [Bool.eq_false_iff] at this
  exact this (List.isPrefixOf_iff_prefix.2 ⟨t, rfl⟩)

set_option maxRecDepth 100000 in
set_option maxHeartbeats 16000000 in
theorem rparse10_any (B c n : Nat) (A : Option Addr) (l : List UInt8) (x : Int) (h1 : -9223372036854775808 ≤ x) (h2 : x ≤ 9223372036854775807) (hn : l.length = n) (hl : n ≤ 2000) (w : World) (hA : ByAt B w A c l) :
    Calls Tryz.prog 11 #[.slice A n c, .int .i64 x] w fun e w' => PaPo w.heap.size l x e w' ∧ Below w.heap.size w w' := by
  have HB0 := Lib.hid (below_al w (.cells #[.int .i64 0, .int .u32 0, .string ⟨#[]⟩, .int .i64 0, .string ⟨#[]⟩, .int .i64 0, .int .u8 0, .int .u32 0, .int .u32 0, .slice none 0 0] 27))
  by_cases hx0 : x < 0
  · have HX := Lib.hid (show ¬ (0 ≤ x ∧ x < (l.length : Int)) by omega)
    have g1 : decide (x < 0) = true := by simp; omega
    clear hA hx0
    go_enter Tryz.func11, Tryz.ntmps11
    go_wp2_with fail
    refine bodyPost_ret (v := .tuple #[rsV rsZero none 0, .int .i64 0, .bool false]) (by simp [results, Tryz.results11, go_sem]; rfl) rfl ⟨.inr ⟨fun h => absurd h HX.out, rfl⟩, HB0.out⟩
  · obtain ⟨k, rfl⟩ : ∃ k : Nat, x = k := ⟨x.toNat, by omega⟩
    have g1 : decide ((k : Int) < 0) = false := by simp
    by_cases hkn : n ≤ k
    · have HX := Lib.hid (show ¬ (0 ≤ (k : Int) ∧ (k : Int) < (l.length : Int)) by omega)
      have g2 : decide ((n : Int) ≤ (k : Int)) = true := by simp; omega
      have g3 : decide (n ≤ k) = true := by simp; omega
      clear hA hx0
      go_enter Tryz.func11, Tryz.ntmps11
      go_wp2_with fail
      refine bodyPost_ret (v := .tuple #[rsV rsZero none 0, .int .i64 0, .bool false]) (by simp [results, Tryz.results11, go_sem]; rfl) rfl ⟨.inr ⟨fun h => absurd h HX.out, rfl⟩, HB0.out⟩
    · have HK := Lib.hid hkn
      have g2 : decide ((n : Int) ≤ (k : Int)) = false := by simp; omega
      have g3 : decide (n ≤ k) = false := by simp; omega
      have hsl := fun W => slice_l A n c k (by omega) W
      have hse := fun x lo hi mx W => sliceAt_eq x lo hi mx W
      have hkl : k ≤ l.length := by omega
      have HA := Lib.hid (fun W (h : Below w.heap.size w W) => (hA.here.below h))
      have HN := Lib.hid hn
      have BX := Lib.hid (heap_alloc_new w (.cells #[.int .i64 0, .int .u32 0, .string ⟨#[]⟩, .int .i64 0, .string ⟨#[]⟩, .int .i64 0, .int .u8 0, .int .u32 0, .int .u32 0, .slice none 0 0] 27))
      have GU := guess10_any (c - k) (n - k) (offA A c k) (l.drop k) (by rw [List.length_drop]; omega) (by omega) (w.alloc (.cells #[.int .i64 0, .int .u32 0, .string ⟨#[]⟩, .int .i64 0, .string ⟨#[]⟩, .int .i64 0, .int .u8 0, .int .u32 0, .int .u32 0, .slice none 0 0] 27)) ((hA.drop hkl).here.below HB0.out).here
      have HFK := guess_fk (N := 2000) (s := l.drop k) (by rw [List.length_drop]; omega)
      have HYES := Lib.hid (rp_yes (s := l.drop k) HFK.1)
      have HNO := Lib.hid (rp_no (s := l.drop k))
      obtain ⟨q, hq⟩ : ∃ q, guessM litO (l.drop k) = q := ⟨_, rfl⟩
      rw [hq] at GU HFK HYES HNO
      obtain ⟨qok, q1, q2, q3⟩ := HFK
      have HOK := Lib.hid qok
      have HSM := Lib.hid (show RIsm q from ⟨by omega, by omega, by omega⟩)
      have HFL := Lib.hid (form_len q qok HSM.out)
      replace GU := Lib.hid (show Calls Tryz.prog 28 #[.slice (offA A c k) (n - k) (c - k)] (w.alloc (.cells #[.int .i64 0, .int .u32 0, .string ⟨#[]⟩, .int .i64 0, .string ⟨#[]⟩, .int .i64 0, .int .u8 0, .int .u32 0, .int .u32 0, .slice none 0 0] 27)) fun e w' => ∃ A2 c2, e = .returned (.agg #[.int .i64 q.kind, .int .u32 (q.n : Int), .string ⟨q.tag.toArray⟩, .int .i64 q.status, .string ⟨q.text.toArray⟩, .int .i64 q.items, .int .u8 (q.flags : Int), .int .u32 (q.uid : Int), .int .u32 (q.size : Int), .slice A2 q.body.length c2]) ∧ w'.ownsRow (w.alloc (.cells #[.int .i64 0, .int .u32 0, .string ⟨#[]⟩, .int .i64 0, .string ⟨#[]⟩, .int .i64 0, .int .u8 0, .int .u32 0, .int .u32 0, .slice none 0 0] 27)).heap.size 5 1 (.slice A2 q.body.length c2) q.body.length (flatL encB q.body) ∧ Below (w.alloc (.cells #[.int .i64 0, .int .u32 0, .string ⟨#[]⟩, .int .i64 0, .string ⟨#[]⟩, .int .i64 0, .int .u8 0, .int .u32 0, .int .u32 0, .slice none 0 0] 27)).heap.size (w.alloc (.cells #[.int .i64 0, .int .u32 0, .string ⟨#[]⟩, .int .i64 0, .string ⟨#[]⟩, .int .i64 0, .int .u8 0, .int .u32 0, .int .u32 0, .slice none 0 0] 27)) w' from GU)
      clear hq q1 q2 q3 qok hA hn hkl hx0 hkn h1 h2
      generalize hw1 : w.alloc (.cells #[.int .i64 0, .int .u32 0, .string ⟨#[]⟩, .int .i64 0, .string ⟨#[]⟩, .int .i64 0, .int .u8 0, .int .u32 0, .int .u32 0, .slice none 0 0] 27) = w1 at *
      have HZ1 := Lib.hid (show w.heap.size + 1 ≤ w1.heap.size by rw [← hw1]; simp)
      go_enter Tryz.func11, Tryz.ntmps11
      go_upto_region 3 with (fail)
      clear hw1
      go_wp2_with fail
      refine GU.out.mono ?_
      rintro e w2 ⟨A2, c2, rfl, hown, hb2⟩
      have BX2 := Lib.hid ((hb2.block w.heap.size (by have := HZ1.out; omega)).trans BX.out)
      have BL2 := Lib.hid (below_next HB0.out hb2)
      have HO2 := Lib.hid hown
      have QN := Lib.hid (heap_alloc_new w2 (.cells #[.int .i64 q.kind, .int .u32 (q.n : Int), .string ⟨q.tag.toArray⟩, .int .i64 q.status, .string ⟨q.text.toArray⟩, .int .i64 q.items, .int .u8 (q.flags : Int), .int .u32 (q.uid : Int), .int .u32 (q.size : Int), .slice A2 q.body.length c2] 27))
      have QB := Lib.hid (below_al w2 (.cells #[.int .i64 q.kind, .int .u32 (q.n : Int), .string ⟨q.tag.toArray⟩, .int .i64 q.status, .string ⟨q.text.toArray⟩, .int .i64 q.items, .int .u8 (q.flags : Int), .int .u32 (q.uid : Int), .int .u32 (q.size : Int), .slice A2 q.body.length c2] 27))
      have HZ2 := Lib.hid (show w.heap.size + 1 ≤ w2.heap.size by have := HZ1.out; have := hb2.size; omega)
      clear hown hb2 GU BX HB0 hsl hse g1 g2 g3
      obtain ⟨w3, hw3⟩ : ∃ w3, w2.alloc (.cells #[.int .i64 q.kind, .int .u32 (q.n : Int), .string ⟨q.tag.toArray⟩, .int .i64 q.status, .string ⟨q.text.toArray⟩, .int .i64 q.items, .int .u8 (q.flags : Int), .int .u32 (q.uid : Int), .int .u32 (q.size : Int), .slice A2 q.body.length c2] 27) = w3 := ⟨_, rfl⟩
      rw [hw3] at QN QB
      go_upto_region 4 with (fail)
      clear hw3
      have QO := Lib.hid (fun W (h : Below w3.heap.size w3 W) => ByAt.of_own (own_below (own_below HO2.out QB.out) h))
      have VA := Lib.hid (show Calls Tryz.prog 18 #[.agg #[.int .i64 q.kind, .int .u32 (q.n : Int), .string ⟨q.tag.toArray⟩, .int .i64 q.status, .string ⟨q.text.toArray⟩, .int .i64 q.items, .int .u8 (q.flags : Int), .int .u32 (q.uid : Int), .int .u32 (q.size : Int), .slice A2 q.body.length c2]] w3 fun e w' => e = .returned (.bool (rsOk q)) ∧ Below w3.heap.size w3 w' from rvalid9_any q HOK.out HSM.out A2 c2 w3 (QO.out w3 (Below.refl _ _)))
      have FO := Lib.hid (fun (hv : rsOk q = true) W (h : Below w3.heap.size w3 W) => show Calls Tryz.prog 30 #[.agg #[.int .i64 q.kind, .int .u32 (q.n : Int), .string ⟨q.tag.toArray⟩, .int .i64 q.status, .string ⟨q.text.toArray⟩, .int .i64 q.items, .int .u8 (q.flags : Int), .int .u32 (q.uid : Int), .int .u32 (q.size : Int), .slice A2 q.body.length c2]] W fun e w' => e = .returned (.string ⟨(rsForm q).toArray⟩) ∧ Below W.heap.size W w' from rform9_any q HOK.out HSM.out hv A2 c2 W (QO.out W h))
      have HKN := Lib.hid (show k ≤ n by have := HK.out; omega)
      have ST := Lib.hid (fun W (h : Below w.heap.size w W) => starts_any w.heap.size c n k A l (rsForm q) HN.out HKN.out (by omega) (by have := HFL.out; omega) W (HA.out W h))
      generalize hv2 : ByteArray.mk q.tag.toArray = v2 at *
      generalize hv4 : ByteArray.mk q.text.toArray = v4 at *
      have HV2 := Lib.hid hv2
      have HV4 := Lib.hid hv4
      clear hv2 hv4
      obtain ⟨x0, x1, x2, x3, x4, x5, x6, x7, x8, x9⟩ := cells10 QN.out
      have BX3 := Lib.hid ((QB.out.block w.heap.size (by have := HZ2.out; omega)).trans BX2.out)
      have BL3 := Lib.hid (below_next BL2.out QB.out)
      have HS3 := Lib.hid (Array.getElem?_eq_some_iff.1 BX3.out).1
      have HT3 := Lib.hid (Array.getElem?_eq_some_iff.1 QN.out).1
      clear BX2 BL2
      cases hv : rsOk q with
      | false =>
        have HX := Lib.hid (HNO.out (fun h => by rw [hv] at h; cases h))
        rw [hv] at VA
        clear hv FO ST HYES HNO
        go_wp2_with fail
        refine VA.out.mono ?_
        rintro e w4 ⟨rfl, hb4⟩
        have BX4 := Lib.hid ((hb4.block w.heap.size HS3.out).trans BX3.out)
        have BL4 := Lib.hid (below_next BL3.out hb4)
        clear VA hb4 x0 x1 x2 x3 x4 x5 x6 x7 x8 x9
        obtain ⟨y0, y1, y2, y3, y4, y5, y6, y7, y8, y9⟩ := cells10 BX4.out
        have z0 := Joins.unfrozen_of_block BX4.out 0
        have z1 := Joins.unfrozen_of_block BX4.out 1
        have z2 := Joins.unfrozen_of_block BX4.out 2
        have z3 := Joins.unfrozen_of_block BX4.out 3
        have z4 := Joins.unfrozen_of_block BX4.out 4
        have z5 := Joins.unfrozen_of_block BX4.out 5
        have z6 := Joins.unfrozen_of_block BX4.out 6
        have z7 := Joins.unfrozen_of_block BX4.out 7
        have z8 := Joins.unfrozen_of_block BX4.out 8
        have z9 := Joins.unfrozen_of_block BX4.out 9
        go_wp2_with fail
        change bodyPost _ _ _ _ _ (stR w4 w.heap.size (.int .i64 0) (.int .u32 0) (.string ⟨#[]⟩) (.int .i64 0) (.string ⟨#[]⟩) (.int .i64 0) (.int .u8 0) (.int .u32 0) (.int .u32 0) (.slice none 0 0))
        have hq := stR_block BX4.out (.int .i64 0) (.int .u32 0) (.string ⟨#[]⟩) (.int .i64 0) (.string ⟨#[]⟩) (.int .i64 0) (.int .u8 0) (.int .u32 0) (.int .u32 0) (.slice none 0 0)
        have HG := Lib.hid (stR_grown w4 w.heap.size (.int .i64 0) (.int .u32 0) (.string ⟨#[]⟩) (.int .i64 0) (.string ⟨#[]⟩) (.int .i64 0) (.int .u8 0) (.int .u32 0) (.int .u32 0) (.slice none 0 0))
        have HB9 := Lib.hid (below_st BL4.out HG.out (Nat.le_refl _))
        clear y0 y1 y2 y3 y4 y5 y6 y7 y8 y9 z0 z1 z2 z3 z4 z5 z6 z7 z8 z9
        generalize stR w4 w.heap.size (.int .i64 0) (.int .u32 0) (.string ⟨#[]⟩) (.int .i64 0) (.string ⟨#[]⟩) (.int .i64 0) (.int .u8 0) (.int .u32 0) (.int .u32 0) (.slice none 0 0) = w9 at *
        obtain ⟨p0, p1, p2, p3, p4, p5, p6, p7, p8, p9⟩ := cells10 hq
        refine bodyPost_ret (v := .tuple #[rsV rsZero none 0, .int .i64 0, .bool false]) (by simp [results, Tryz.results11, go_sem, p0, p1, p2, p3, p4, p5, p6, p7, p8, p9]; rfl) rfl ⟨.inr ⟨fun _ => HX.out, rfl⟩, HB9.out⟩
      | true =>
        have FO := Lib.hid (FO.out hv)
        have HYES := Lib.hid (HYES.out hv)
        rw [hv] at VA
        have HV := Lib.hid hv
        clear hv
        go_wp2_with fail
        refine VA.out.mono ?_
        rintro e w4 ⟨rfl, hb4⟩
        have BX4 := Lib.hid ((hb4.block w.heap.size HS3.out).trans BX3.out)
        have BL4 := Lib.hid (below_next BL3.out hb4)
        have QN4 := Lib.hid ((hb4.block w2.heap.size HT3.out).trans QN.out)
        have B4 := Lib.hid hb4
        have FO4 := Lib.hid (FO.out w4 hb4)
        clear VA hb4 x0 x1 x2 x3 x4 x5 x6 x7 x8 x9
        obtain ⟨x0, x1, x2, x3, x4, x5, x6, x7, x8, x9⟩ := cells10 QN4.out
        go_wp2_with fail
        refine FO4.out.mono ?_
        rintro e w5 ⟨rfl, hb5⟩
        have B5 := Lib.hid (below_next B4.out hb5)
        have BX5 := Lib.hid ((B5.out.block w.heap.size HS3.out).trans BX3.out)
        have BL5 := Lib.hid (below_next BL3.out B5.out)
        have QN5 := Lib.hid ((B5.out.block w2.heap.size HT3.out).trans QN.out)
        have ST5 := Lib.hid (ST.out w5 BL5.out)
        clear hb5 FO4 x0 x1 x2 x3 x4 x5 x6 x7 x8 x9
        cases hp : (rsForm q).isPrefixOf (l.drop k) with
        | false =>
          have HX := Lib.hid (HNO.out (fun _ => hp))
          rw [hp] at ST5
          clear hp FO ST HYES HNO
          go_wp2_with fail
          refine ST5.out.mono ?_
          rintro e w6 ⟨rfl, rfl⟩
          obtain ⟨y0, y1, y2, y3, y4, y5, y6, y7, y8, y9⟩ := cells10 BX5.out
          have z0 := Joins.unfrozen_of_block BX5.out 0
          have z1 := Joins.unfrozen_of_block BX5.out 1
          have z2 := Joins.unfrozen_of_block BX5.out 2
          have z3 := Joins.unfrozen_of_block BX5.out 3
          have z4 := Joins.unfrozen_of_block BX5.out 4
          have z5 := Joins.unfrozen_of_block BX5.out 5
          have z6 := Joins.unfrozen_of_block BX5.out 6
          have z7 := Joins.unfrozen_of_block BX5.out 7
          have z8 := Joins.unfrozen_of_block BX5.out 8
          have z9 := Joins.unfrozen_of_block BX5.out 9
          go_wp2_with fail
          change bodyPost _ _ _ _ _ (stR w5 w.heap.size (.int .i64 0) (.int .u32 0) (.string ⟨#[]⟩) (.int .i64 0) (.string ⟨#[]⟩) (.int .i64 0) (.int .u8 0) (.int .u32 0) (.int .u32 0) (.slice none 0 0))
          have hq := stR_block BX5.out (.int .i64 0) (.int .u32 0) (.string ⟨#[]⟩) (.int .i64 0) (.string ⟨#[]⟩) (.int .i64 0) (.int .u8 0) (.int .u32 0) (.int .u32 0) (.slice none 0 0)
          have HG := Lib.hid (stR_grown w5 w.heap.size (.int .i64 0) (.int .u32 0) (.string ⟨#[]⟩) (.int .i64 0) (.string ⟨#[]⟩) (.int .i64 0) (.int .u8 0) (.int .u32 0) (.int .u32 0) (.slice none 0 0))
          have HB9 := Lib.hid (below_st BL5.out HG.out (Nat.le_refl _))
          clear y0 y1 y2 y3 y4 y5 y6 y7 y8 y9 z0 z1 z2 z3 z4 z5 z6 z7 z8 z9
          generalize stR w5 w.heap.size (.int .i64 0) (.int .u32 0) (.string ⟨#[]⟩) (.int .i64 0) (.string ⟨#[]⟩) (.int .i64 0) (.int .u8 0) (.int .u32 0) (.int .u32 0) (.slice none 0 0) = w9 at *
          obtain ⟨p0, p1, p2, p3, p4, p5, p6, p7, p8, p9⟩ := cells10 hq
          refine bodyPost_ret (v := .tuple #[rsV rsZero none 0, .int .i64 0, .bool false]) (by simp [results, Tryz.results11, go_sem, p0, p1, p2, p3, p4, p5, p6, p7, p8, p9]; rfl) rfl ⟨.inr ⟨fun _ => HX.out, rfl⟩, HB9.out⟩
        | true =>
          have HY := Lib.hid (HYES.out hp)
          have hml : k + (rsForm q).length ≤ n := by
            have h1 := pre_le hp
            have h2 := HKN.out
            rw [List.length_drop, HN.out] at h1
            omega
          have HML := Lib.hid hml
          have hwr : IntKind.i64.wrap ((k : Int) + ((rsForm q).length : Int)) = ((k + (rsForm q).length : Nat) : Int) := by
            rw [IntWalk.i64_in _ (by omega)]
            omega
          obtain ⟨m, hm⟩ : ∃ m, k + (rsForm q).length = m := ⟨_, rfl⟩
          have HM := Lib.hid hm
          rw [hm] at hwr
          have R0 := Lib.hid (fun W (hW : Below w5.heap.size w5 W) => show Calls Tryz.prog 30 #[.agg #[.int .i64 q.kind, .int .u32 (q.n : Int), .string v2, .int .i64 q.status, .string v4, .int .i64 q.items, .int .u8 (q.flags : Int), .int .u32 (q.uid : Int), .int .u32 (q.size : Int), .slice A2 q.body.length c2]] W fun e w' => e = .returned (.string ⟨(rsForm q).toArray⟩) ∧ Hid (w'.heap[w2.heap.size]? = some (.cells #[.int .i64 q.kind, .int .u32 (q.n : Int), .string v2, .int .i64 q.status, .string v4, .int .i64 q.items, .int .u8 (q.flags : Int), .int .u32 (q.uid : Int), .int .u32 (q.size : Int), .slice A2 q.body.length c2] 27 (0, 0))) ∧ Hid (w'.heap[w.heap.size]? = some (.cells #[.int .i64 0, .int .u32 0, .string ⟨#[]⟩, .int .i64 0, .string ⟨#[]⟩, .int .i64 0, .int .u8 0, .int .u32 0, .int .u32 0, .slice none 0 0] 27 (0, 0))) ∧ Hid (Below w3.heap.size w3 w') from
            (FO.out W (below_next B5.out hW)).mono fun e w' ⟨a1, a2⟩ => ⟨a1, Lib.hid (((below_next B5.out (below_next hW a2)).block w2.heap.size HT3.out).trans QN.out), Lib.hid (((below_next B5.out (below_next hW a2)).block w.heap.size HS3.out).trans BX3.out), Lib.hid (below_next B5.out (below_next hW a2))⟩)
          rw [hp] at ST5
          clear hp hm FO ST HYES HNO hml
          obtain ⟨x0, x1, x2, x3, x4, x5, x6, x7, x8, x9⟩ := cells10 QN5.out
          go_wp2_with fail
          refine ST5.out.mono ?_
          rintro e w6 ⟨rfl, rfl⟩
          clear ST5
          go_upto_region 6 with (fail)
          go_region_with (first
            | (go_at_call 30; refine (R0.out _ (by repeat (first | assumption | exact Below.refl _ _ | refine Below.drew ?_ ))).mono ?_; rintro e w7 ⟨rfl, Q7, Z7, B7⟩; obtain ⟨x0', x1', x2', x3', x4', x5', x6', x7', x8', x9'⟩ := cells10 Q7.out; obtain ⟨y0, y1, y2, y3, y4, y5, y6, y7, y8, y9⟩ := cells10 Z7.out; have z0 := Joins.unfrozen_of_block Z7.out 0; have z1 := Joins.unfrozen_of_block Z7.out 1; have z2 := Joins.unfrozen_of_block Z7.out 2; have z3 := Joins.unfrozen_of_block Z7.out 3; have z4 := Joins.unfrozen_of_block Z7.out 4; have z5 := Joins.unfrozen_of_block Z7.out 5; have z6 := Joins.unfrozen_of_block Z7.out 6; have z7 := Joins.unfrozen_of_block Z7.out 7; have z8 := Joins.unfrozen_of_block Z7.out 8; have z9 := Joins.unfrozen_of_block Z7.out 9))
          all_goals
            clear R0
            go_wp2_with fail
            change bodyPost _ _ _ _ _ (stR w7 w.heap.size (.int .i64 q.kind) (.int .u32 (q.n : Int)) (.string v2) (.int .i64 q.status) (.string v4) (.int .i64 q.items) (.int .u8 (q.flags : Int)) (.int .u32 (q.uid : Int)) (.int .u32 (q.size : Int)) (.slice A2 q.body.length c2))
            have hq := stR_block Z7.out (.int .i64 q.kind) (.int .u32 (q.n : Int)) (.string v2) (.int .i64 q.status) (.string v4) (.int .i64 q.items) (.int .u8 (q.flags : Int)) (.int .u32 (q.uid : Int)) (.int .u32 (q.size : Int)) (.slice A2 q.body.length c2)
            have HG := Lib.hid (stR_grown w7 w.heap.size (.int .i64 q.kind) (.int .u32 (q.n : Int)) (.string v2) (.int .i64 q.status) (.string v4) (.int .i64 q.items) (.int .u8 (q.flags : Int)) (.int .u32 (q.uid : Int)) (.int .u32 (q.size : Int)) (.slice A2 q.body.length c2))
            have HB9 := Lib.hid (below_st (below_next BL3.out B7.out) HG.out (Nat.le_refl _))
            have HBY := Lib.hid (ByAt.of_own (own_past9 (own_below (own_below HO2.out QB.out) B7.out) HG.out (by have := HZ1.out; omega)))
            have HNW := Lib.hid (fun b off s (e : A2 = some ⟨b, off, s⟩) => Nat.le_trans (show w.heap.size ≤ w1.heap.size by have := HZ1.out; omega) (new_own HO2.out b off s e))
            clear y0 y1 y2 y3 y4 y5 y6 y7 y8 y9 z0 z1 z2 z3 z4 z5 z6 z7 z8 z9 x0 x1 x2 x3 x4 x5 x6 x7 x8 x9 x0' x1' x2' x3' x4' x5' x6' x7' x8' x9'
            generalize stR w7 w.heap.size (.int .i64 q.kind) (.int .u32 (q.n : Int)) (.string v2) (.int .i64 q.status) (.string v4) (.int .i64 q.items) (.int .u8 (q.flags : Int)) (.int .u32 (q.uid : Int)) (.int .u32 (q.size : Int)) (.slice A2 q.body.length c2) = w9 at *
            obtain ⟨p0, p1, p2, p3, p4, p5, p6, p7, p8, p9⟩ := cells10 hq
            refine bodyPost_ret (v := .tuple #[.agg #[.int .i64 q.kind, .int .u32 (q.n : Int), .string v2, .int .i64 q.status, .string v4, .int .i64 q.items, .int .u8 (q.flags : Int), .int .u32 (q.uid : Int), .int .u32 (q.size : Int), .slice A2 q.body.length c2], .int .i64 ((m : Nat) : Int), .bool true]) (by simp [results, Tryz.results11, go_sem, p0, p1, p2, p3, p4, p5, p6, p7, p8, p9]) rfl ⟨.inl ⟨q, A2, c2, m, ⟨by omega, by have := HK.out; have := HN.out; omega⟩, HY.out, HM.out.symm, by rw [HN.out, ← HM.out]; exact HML.out, ?_, HBY.out, HNW.out⟩, HB9.out⟩
            unfold rsV
            rw [HV2.out, HV4.out]
end Go.Proofs.YtpoejnajnaolpaaGreatDoor
