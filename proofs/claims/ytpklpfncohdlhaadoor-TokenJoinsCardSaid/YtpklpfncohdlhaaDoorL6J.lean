/- The walk of the law TokenJoins. -/
import Derived.Test.YtpklpfncohdlhaaDoorTkAlive
import Derived.Test.YtpklpfncohdlhaaDoorTkJoin
import Derived.Test.YtpklpfncohdlhaaDoorEqB
namespace Go.Proofs.YtpklpfncohdlhaaDoor
open Go.RowKit

set_option maxRecDepth 100000 in
set_option maxHeartbeats 2000000 in
theorem tokenJoins_any (A : Option Addr) (c : Nat) (l : List UInt8) (hl : l.length ≤ maxLen) (w : World) (henv : Env w) (hA : ByAt w.heap.size w A c l) :
    Calls Tryd.prog 5 #[.slice A l.length c] w fun e w' => e = .returned (.bool true) ∧ Below w.heap.size w w' := by
  have AL := Lib.hid (fun w1 (hB : Below w.heap.size w w1) => alive6_any w1 (henv.below hB))
  have HE := Lib.hid (fun w1 (hB : Below w.heap.size w w1) => henv.below hB)
  unfold maxLen at hl
  by_cases hbig : l.length ≤ 2000
  · have hd : decide ((2000 : Int) < (l.length : Int)) = false := by simp; omega
    have TK := Lib.hid (tokens_any _ c A l (by omega) w henv hA)
    have HA := Lib.hid hA
    clear hA henv
    obtain ⟨n, hn⟩ : ∃ n, l.length = n := ⟨_, rfl⟩
    rw [hn] at TK hd hbig hl
    rw [hn]
    have HN := Lib.hid hn
    clear hn
    go_enter Tryd.func5, Tryd.ntmps5
    go_wp2_with fail
    refine TK.out.mono ?_
    rintro e w1 ⟨v, ts, x, rfl, ho, hit, hb⟩
    obtain ⟨Av, cv, rfl⟩ := own_any ho
    have hlen := hit.len
    rw [HN.out] at hlen
    have HIT := Lib.hid hit
    have HB := Lib.hid hb
    have HS := Lib.hid (tk_sl ho)
    clear TK ho hb hit
    by_cases hx : 0 ≤ x
    · have hts : ts.length = 0 := by
        rcases HIT.out with ⟨_, _, _, rfl⟩ | ⟨_, _, _, _, _, rfl, _⟩
        · omega
        · rfl
      rw [hts]
      have hd2 : decide (0 ≤ x) = true := by simp [hx]
      have AL := Lib.hid (AL.out _ HB.out)
      clear hts hlen
      go_wp2_with fail
      refine AL.out.mono ?_
      rintro e w2 ⟨rfl, h2⟩
      have HB2 := Lib.hid (below_next HB.out h2)
      clear h2
      go_wp2_with fail
      go_ret
      exact ⟨rfl, HB2.out⟩
    · have hx1 : x = -1 := by omega
      subst hx1
      have hj := HIT.out.join
      have htk : ∀ t ∈ ts, t.kind ≤ 6 ∧ t.text.length ≤ 400000 := fun t ht => by
        have h := HIT.out.each t ht
        rw [HN.out] at h
        exact ⟨h.1, by omega⟩
      have JN := Lib.hid (fun W (hW : Below w1.heap.size w1 W) => join_any Av cv ts.length ts rfl (by omega) (by rw [hj, HN.out]; omega) htk W (HE.out W (HB.out.trans (hW.mono HB.out.size))) (HS.out.below hW))
      rw [hj, HN.out] at JN
      have AL := Lib.hid (AL.out _ HB.out)
      clear hlen htk hj
      generalize ts.length = tn at *
      go_wp2_with fail
      refine AL.out.mono ?_
      rintro e w2 ⟨rfl, h2⟩
      have HB2 := Lib.hid (below_next HB.out h2)
      have JN := Lib.hid (JN.out _ h2)
      clear h2
      go_wp2_with fail
      refine JN.out.mono ?_
      rintro e w3 ⟨A3, c3, rfl, hby, h3⟩
      have HB3 := Lib.hid (below_next HB2.out h3)
      have EQ := equalB_any _ _ A3 A c3 c n n l l HN.out HN.out (by omega) (by omega) w3 hby (HA.out.below HB3.out)
      rw [decide_eq_true rfl] at EQ
      have EQ := Lib.hid EQ
      clear h3 hby JN
      go_wp2_with fail
      refine EQ.out.mono ?_
      rintro e w4 ⟨rfl, h4⟩
      have HB4 := Lib.hid (below_next HB3.out h4)
      clear h4
      go_wp2_with fail
      go_ret
      exact ⟨rfl, HB4.out⟩
  · have hd : decide ((2000 : Int) < (l.length : Int)) = true := by simp; omega
    have AL := Lib.hid (AL.out w (Below.refl _ _))
    clear hA henv
    generalize l.length = n at *
    go_enter Tryd.func5, Tryd.ntmps5
    go_wp2_with fail
    refine AL.out.mono ?_
    rintro e w1 ⟨rfl, hb⟩
    go_wp2_with fail
    go_ret
    exact ⟨rfl, hb⟩
end Go.Proofs.YtpklpfncohdlhaaDoor
