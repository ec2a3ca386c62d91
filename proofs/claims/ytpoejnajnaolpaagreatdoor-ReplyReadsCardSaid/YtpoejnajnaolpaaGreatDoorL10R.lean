/- Law 10: ReplyReads. -/
import Derived.Test.YtpoejnajnaolpaaGreatDoorRpAlive
import Derived.Test.YtpoejnajnaolpaaGreatDoorRpSL
import Derived.Test.YtpoejnajnaolpaaGreatDoorRf10A
namespace Go.Proofs.YtpoejnajnaolpaaGreatDoor
open Go.RowKit

theorem Rps.count {s u : List UInt8} {rs : List RI} (h : Rps s rs u) : rs.length ≤ s.length := by
  induction h with
  | stop _ => exact Nat.zero_le _
  | @next s t u r rs hi ho ht _ ih =>
    have := form_long r
    rw [ht, List.length_append, List.length_cons]
    omega

set_option maxRecDepth 100000 in
set_option maxHeartbeats 4000000 in
theorem replyReads_any (A : Option Addr) (c : Nat) (l : List UInt8) (hl : l.length ≤ maxLen) (w : World) (henv : Env w) (hA : ByAt w.heap.size w A c l) :
    Calls Tryz.prog 4 #[.slice A l.length c] w fun e w' => e = .returned (.bool true) ∧ Below w.heap.size w w' := by
  have AL := Lib.hid (fun W (h : Below w.heap.size w W) => alive10_any W (henv.below h))
  unfold maxLen at hl
  by_cases hbig : 2000 < l.length
  · have AL := Lib.hid (AL.out w (Below.refl _ _))
    have d1 : decide (2000 < (l.length : Int)) = true := by simp; omega
    clear hA henv
    generalize l.length = n at *
    go_enter Tryz.func4, Tryz.ntmps4
    go_wp2_with fail
    refine AL.out.mono ?_
    rintro e w2 ⟨rfl, hb⟩
    go_wp2_with fail
    go_ret
    exact ⟨rfl, hb⟩
  · have d1 : decide (2000 < (l.length : Int)) = false := by simp; omega
    have PA := Lib.hid (pall10_any _ c l.length A l rfl (by omega) w henv hA)
    have RA := Lib.hid (fun W (h : Below w.heap.size w W) => rall10_any _ c l.length A l rfl (by omega) W ((hA.below h)))
    have HS := Lib.hid (show l.length ≤ 2000 by omega)
    obtain ⟨n, hn⟩ : ∃ n, l.length = n := ⟨_, rfl⟩
    have HN := Lib.hid hn
    rw [hn] at PA RA d1 ⊢
    clear hA henv hl hbig hn
    go_enter Tryz.func4, Tryz.ntmps4
    go_wp2_with fail
    refine PA.out.mono ?_
    rintro e w1 ⟨xs, A1, c1, u, m, hr, hm, rfl, hs, hb1⟩
    have RA := Lib.hid (RA.out w1 hb1)
    have HR := Lib.hid hr
    have HM := Lib.hid hm
    have HX1 := Lib.hid hs
    have HB1 := Lib.hid hb1
    obtain ⟨p, hp⟩ : ∃ p, xs.length = p := ⟨_, rfl⟩
    have HP := Lib.hid hp
    rw [hp]
    clear hr hm hs hb1 hp PA
    go_wp2_with fail
    refine RA.out.mono ?_
    rintro e w2 ⟨ys, A2, c2, u2, m2, hr2, hm2, rfl, hs2, hb2⟩
    obtain ⟨hxy, rfl⟩ := HR.out.det hr2
    obtain rfl : m = m2 := by have := HM.out; omega
    have HB2 := Lib.hid (below_next HB1.out hb2)
    have AL := Lib.hid (AL.out w2 HB2.out)
    have HPN := Lib.hid (show p ≤ 1000000 by
      have h1 := HR.out.count
      have h2 := HS.out
      rw [List.length_map, HP.out] at h1
      omega)
    have HSL := Lib.hid (fun W (h : Below w2.heap.size w2 W) => sameList_t xs ys hxy A1 A2 c1 c2 p ys.length HP.out rfl HPN.out W ((HX1.out.below hb2).below h) (hs2.below h))
    generalize ys.length = p2 at *
    clear hr2 hm2 hs2 hb2 hxy RA HR HM HX1
    go_wp2_with fail
    refine AL.out.mono ?_
    rintro e w3 ⟨rfl, hb3⟩
    have HSL := Lib.hid (HSL.out w3 hb3)
    have HB3 := Lib.hid (below_next HB2.out hb3)
    clear hb3 AL
    go_wp2_with fail
    refine HSL.out.mono ?_
    rintro e w4 ⟨rfl, hb4⟩
    have HB4 := Lib.hid (below_next HB3.out hb4)
    clear hb4 HSL
    go_wp2_with fail
    go_ret
    exact ⟨rfl, HB4.out⟩
end Go.Proofs.YtpoejnajnaolpaaGreatDoor
