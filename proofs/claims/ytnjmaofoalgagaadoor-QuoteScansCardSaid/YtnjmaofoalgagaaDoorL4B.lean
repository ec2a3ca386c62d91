/- The walk of the law QuoteScans. -/
import Derived.Test.YtnjmaofoalgagaaDoorAlive4
import Derived.Test.YtnjmaofoalgagaaDoorScanFL
import Derived.Test.YtnjmaofoalgagaaDoorRef04D
import Derived.Test.YtnjmaofoalgagaaDoorEqB
namespace Go.Proofs.YtnjmaofoalgagaaDoor
open Go.RowKit

theorem scanQ_len {l : List UInt8} {x : Int} {P : List UInt8} {m : Nat} (h : scanQ l x = some (P, m)) : P.length ≤ l.length := by
  unfold scanQ at h
  split at h
  · obtain ⟨t, ht, he⟩ := Option.map_eq_some_iff.1 h
    simp only [Prod.mk.injEq] at he
    obtain ⟨h1, h2, _⟩ := q_plain _ t.1 t.2 ht
    have h3 := plainD_len ((l.drop (x.toNat + 1)).take t.2)
    rw [h2, he.1] at h3
    simp only [List.length_take, List.length_drop] at h3
    omega
  · cases h
theorem scanL_len {l : List UInt8} {x : Int} {P : List UInt8} {m : Nat} (h : scanL l x = some (P, m)) : P.length ≤ l.length := by
  unfold scanL litO at h
  split at h
  · obtain ⟨t, ht, he⟩ := Option.map_eq_some_iff.1 h
    simp only [Prod.mk.injEq] at he
    split at ht
    · split at ht
      · rename_i hc
        have := Option.some.inj ht
        rw [← this] at he
        rw [← he.1]
        simp only [List.length_take, List.length_drop]
        omega
      · cases ht
    · cases ht
  · cases h
theorem SPost.read {o : Option (List UInt8 × Nat)} {base : Nat} {e : Ending} {w' : World} (h : SPost o base e w') : RPost o e w' := by
  rcases h with ⟨P, m, g, c', h1, h2, h3⟩ | h
  · exact Or.inl ⟨P, m, _, c', h1, h2, ByAt.of_own h3⟩
  · exact Or.inr h
/-- In one form: the bytes, the offset, whether there is one. -/
def oP (o : Option (List UInt8 × Nat)) : List UInt8 := (o.map (·.1)).getD []
def oM (o : Option (List UInt8 × Nat)) : Nat := (o.map (·.2)).getD 0
theorem RPost.one {o : Option (List UInt8 × Nat)} {e : Ending} {w' : World} (h : RPost o e w') : ∃ A' c', e = .returned (.tuple #[.slice A' (oP o).length c', .int .i64 ((oM o : Nat) : Int), .bool o.isSome]) ∧ ByAt w'.heap.size w' A' c' (oP o) := by
  rcases h with ⟨P, m, A', c', rfl, h2, h3⟩ | ⟨rfl, h2⟩
  · exact ⟨A', c', h2, h3⟩
  · exact ⟨none, 0, h2, ByAt.nil _ _ _ _⟩

set_option maxRecDepth 100000 in
set_option maxHeartbeats 4000000 in
theorem quoteScans_any (A : Option Addr) (c : Nat) (l : List UInt8) (hl : l.length ≤ maxLen) (x : Int) (h1 : -9223372036854775808 ≤ x) (h2 : x ≤ 9223372036854775807) (w : World) (henv : Env w) (hA : ByAt w.heap.size w A c l) :
    Calls Tryd.prog 5 #[.slice A l.length c, .int .i64 x] w fun e w' => e = .returned (.bool true) ∧ Below w.heap.size w w' := by
  have HE := Lib.hid (fun w1 (hB : Below w.heap.size w w1) => henv.below hB)
  have AL := Lib.hid (fun w1 (hB : Below w.heap.size w w1) => alive4_any w1 (henv.below hB))
  unfold maxLen at hl
  by_cases hbig : l.length ≤ 1000
  · have HA := Lib.hid hA
    have SQ := Lib.hid (scanQuoted_any _ c A l x h1 h2 (by omega) w hA)
    have RQ := Lib.hid (fun w1 (hB : Below w.heap.size w w1) => refScanQuoted_any w.heap.size c A l x h1 h2 (by omega) w1 (hA.below hB))
    have SL := Lib.hid (fun w1 (hB : Below w.heap.size w w1) => scanLiteral_any w.heap.size c A l x h1 h2 (by omega) w1 (henv.below hB) (hA.below hB))
    have RL := Lib.hid (fun w1 (hB : Below w.heap.size w w1) => refScanLiteral_any w.heap.size c A l x h1 h2 (by omega) w1 (hA.below hB))
    have hq1 : (oP (scanQ l x)).length ≤ 1000000000 := by
      unfold oP
      cases h : scanQ l x with
      | none => simp
      | some t => obtain ⟨P, m⟩ := t; have := scanQ_len h; simp; omega
    have hq2 : (oP (scanL l x)).length ≤ 1000000000 := by
      unfold oP
      cases h : scanL l x with
      | none => simp
      | some t => obtain ⟨P, m⟩ := t; have := scanL_len h; simp; omega
    have HQ1 := Lib.hid hq1
    have HQ2 := Lib.hid hq2
    clear henv hA hq1 hq2
    generalize scanQ l x = o1 at *
    generalize scanL l x = o2 at *
    obtain ⟨P1, hP1⟩ : ∃ P, oP o1 = P := ⟨_, rfl⟩
    obtain ⟨M1, hM1⟩ : ∃ M, oM o1 = M := ⟨_, rfl⟩
    obtain ⟨T1, hT1⟩ : ∃ T, o1.isSome = T := ⟨_, rfl⟩
    obtain ⟨P2, hP2⟩ : ∃ P, oP o2 = P := ⟨_, rfl⟩
    obtain ⟨M2, hM2⟩ : ∃ M, oM o2 = M := ⟨_, rfl⟩
    obtain ⟨T2, hT2⟩ : ∃ T, o2.isSome = T := ⟨_, rfl⟩
    rw [hP1] at HQ1
    rw [hP2] at HQ2
    have K1 := Lib.hid (fun e w' (h : RPost o1 e w') => show ∃ A' c', e = .returned (.tuple #[.slice A' P1.length c', .int .i64 (M1 : Int), .bool T1]) ∧ ByAt w'.heap.size w' A' c' P1 by have := h.one; rwa [hP1, hM1, hT1] at this)
    have K2 := Lib.hid (fun e w' (h : RPost o2 e w') => show ∃ A' c', e = .returned (.tuple #[.slice A' P2.length c', .int .i64 (M2 : Int), .bool T2]) ∧ ByAt w'.heap.size w' A' c' P2 by have := h.one; rwa [hP2, hM2, hT2] at this)
    clear hP1 hM1 hT1 hP2 hM2 hT2
    go_enter Tryd.func5, Tryd.ntmps5
    go_wp2_with fail
    refine SQ.out.mono ?_
    rintro e w1 ⟨hs, hb1⟩
    obtain ⟨A1, c1, rfl, hr1⟩ := K1.out _ _ hs.read
    have HB1 := Lib.hid hb1
    have HR1 := Lib.hid hr1
    have RQ := Lib.hid (RQ.out w1 hb1)
    clear hs hb1 hr1 SQ
    go_wp2_with fail
    refine RQ.out.mono ?_
    rintro e w2 ⟨hs, hb2⟩
    obtain ⟨A2, c2, rfl, hr2⟩ := K1.out _ _ hs
    have HB2 := Lib.hid (HB1.out.trans (hb2.mono HB1.out.size))
    have HR1 := Lib.hid (HR1.out.grow hb2)
    have HR2 := Lib.hid hr2
    have SL := Lib.hid (SL.out w2 HB2.out)
    clear hs hb2 hr2 RQ HB1
    go_wp2_with fail
    refine SL.out.mono ?_
    rintro e w3 ⟨hs, hb3⟩
    obtain ⟨A3, c3, rfl, hr3⟩ := K2.out _ _ hs.read
    have HB3 := Lib.hid (HB2.out.trans (hb3.mono HB2.out.size))
    have HR1 := Lib.hid (HR1.out.grow hb3)
    have HR2 := Lib.hid (HR2.out.grow hb3)
    have HR3 := Lib.hid hr3
    have RL := Lib.hid (RL.out w3 HB3.out)
    clear hs hb3 hr3 SL HB2
    go_wp2_with fail
    refine RL.out.mono ?_
    rintro e w4 ⟨hs, hb4⟩
    obtain ⟨A4, c4, rfl, hr4⟩ := K2.out _ _ hs
    have HB4 := Lib.hid (HB3.out.trans (hb4.mono HB3.out.size))
    have HR1 := Lib.hid (HR1.out.grow hb4)
    have HR2 := Lib.hid (HR2.out.grow hb4)
    have HR3 := Lib.hid (HR3.out.grow hb4)
    have HR4 := Lib.hid hr4
    have AL := Lib.hid (AL.out w4 HB4.out)
    clear hs hb4 hr4 RL HB3 K1 K2
    go_wp2_with fail
    refine AL.out.mono ?_
    rintro e w5 ⟨rfl, h5⟩
    have HB5 := Lib.hid (HB4.out.trans (h5.mono HB4.out.size))
    have HR3 := Lib.hid (HR3.out.grow h5)
    have HR4 := Lib.hid (HR4.out.grow h5)
    have E1 := equalB_any _ _ A1 A2 c1 c2 _ _ P1 P1 rfl rfl HQ1.out HQ1.out w5 (HR1.out.grow h5) (HR2.out.grow h5)
    rw [decide_eq_true rfl] at E1
    have E1 := Lib.hid E1
    clear h5 AL HB4 HR1 HR2
    go_wp2_with fail
    refine E1.out.mono ?_
    rintro e w6 ⟨rfl, h6⟩
    have HB6 := Lib.hid (HB5.out.trans (h6.mono HB5.out.size))
    have E2 := equalB_any _ _ A3 A4 c3 c4 _ _ P2 P2 rfl rfl HQ2.out HQ2.out w6 (HR3.out.grow h6) (HR4.out.grow h6)
    rw [decide_eq_true rfl] at E2
    have E2 := Lib.hid E2
    clear h6 E1 HB5 HR3 HR4
    cases T1
    all_goals cases T2
    all_goals
      go_wp2_with fail
      refine E2.out.mono ?_
      rintro e w7 ⟨rfl, h7⟩
      have HB7 := Lib.hid (HB6.out.trans (h7.mono HB6.out.size))
      clear h7 E2 HB6
      go_wp2_with fail
      go_ret
      exact ⟨rfl, HB7.out⟩
  · have hb1 : (1000 : Int) < l.length := by omega
    have hb2 : (l.length : Int) ≤ 9223372036854775807 := by omega
    have AL := Lib.hid (AL.out w (Below.refl _ _))
    clear hbig henv hA
    go_enter Tryd.func5, Tryd.ntmps5
    go_wp2_with fail
    refine AL.out.mono ?_
    rintro e w1 ⟨rfl, hb⟩
    go_wp2_with fail
    go_ret
    exact ⟨rfl, hb⟩
end Go.Proofs.YtnjmaofoalgagaaDoor
