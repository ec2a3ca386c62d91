/- The laws' own: same; the walk of the law TokenReads. -/
import Derived.Test.YtpklpfncohdlhaaDoorTkMem
import Derived.Test.YtpklpfncohdlhaaDoorBel
import Derived.LoopIn
import Derived.Test.YtpklpfncohdlhaaDoorTkAlive
import Derived.Test.YtpklpfncohdlhaaDoorRefTok
namespace Go.Proofs.YtpklpfncohdlhaaDoor
open Go.RowKit

set_option maxRecDepth 100000 in
set_option maxHeartbeats 2000000 in
theorem sameC_any (k a : Int) (s : ByteArray) (w : World) :
    Calls Tryd.prog 23 #[.agg #[.int .i64 k, .string s, .int .i64 a], .agg #[.int .i64 k, .string s, .int .i64 a]] w fun e w' => e = .returned (.bool true) ∧ Below w.heap.size w w' := by
  go_enter Tryd.func23, Tryd.ntmps23
  go_wp2_with fail
  go_ret
  exact ⟨rfl, belAlloc (below_al _ _) _⟩

set_option maxRecDepth 100000 in
set_option maxHeartbeats 4000000 in
theorem equalT_any (ts : List Tok) (n : Nat) (hn : ts.length = n) (hl : n ≤ 1000000) (w : World) (A A2 : Option Addr) (c c2 : Nat) (h1 : SlAt encT 3 w A ts) (h2 : SlAt encT 3 w A2 ts) :
    Calls Tryd.prog 22 #[.slice A n c, .slice A2 n c2, .func (.func 23) #[] #[]] w fun e w' => e = .returned (.bool true) ∧ Below w.heap.size w w' := by
  have H1 := Lib.hid h1
  have H2 := Lib.hid h2
  have HN := Lib.hid hn
  have SC := Lib.hid (fun k a s W => sameC_any k a s W)
  clear h1 h2 hn
  go_enter Tryd.func22, Tryd.ntmps22
  go_wp2_with fail
  go_loopw [17] (fun i wr => ∃ k : Nat, k ≤ n ∧ i = .int .i64 (k : Int) ∧ Hid (Below w.heap.size w wr)) (fun i _ => n - (intOf i).toNat)
  case atStart => exact ⟨0, Nat.zero_le _, rfl, Below.refl _ _⟩
  case round =>
    obtain ⟨k, hk, rfl, hB⟩ := hrel
    by_cases hlt : k < n
    · have hlf : k < ts.length := by rw [HN.out]; exact hlt
      obtain ⟨b, off, rfl, hb, e0, e1, e2⟩ := tk_at (H1.out.below hB.out) hlf
      obtain ⟨b', off', rfl, hb', e0', e1', e2'⟩ := tk_at (H2.out.below hB.out) hlf
      have hbb : Below wr.heap.size wr ((wr.alloc (.cells #[.int .i64 (ts[k].kind : Int), .string ⟨ts[k].text.toArray⟩, .int .i64 (ts[k].at_ : Int)] 38)).alloc (.cells #[.int .i64 (ts[k].kind : Int), .string ⟨ts[k].text.toArray⟩, .int .i64 (ts[k].at_ : Int)] 39)) := belAlloc (below_al _ _) _
      have HBB := Lib.hid hbb
      clear hbb
      generalize (ts[k].kind : Int) = kd at *
      generalize ByteArray.mk ts[k].text.toArray = tx at *
      generalize (ts[k].at_ : Int) = ta at *
      go_wp2_with fail
      refine (SC.out _ _ _ _).mono ?_
      rintro e w1 ⟨rfl, hb1⟩
      have HB1 := Lib.hid (below_next hB.out (below_next HBB.out hb1))
      clear hb1 HBB
      go_wp2_with fail
      go_roundw
      case rel => exact ⟨k + 1, by omega, by go_num, HB1⟩
      case measure => simp [intOf]; omega
    · go_wp2_with fail
      go_ret
      exact ⟨rfl, hB.out⟩

theorem same_any (ts : List Tok) (n : Nat) (hn : ts.length = n) (hl : n ≤ 1000000) (w : World) (A A2 : Option Addr) (c c2 : Nat) (h1 : SlAt encT 3 w A ts) (h2 : SlAt encT 3 w A2 ts) :
    Calls Tryd.prog 11 #[.slice A n c, .slice A2 n c2] w fun e w' => e = .returned (.bool true) ∧ Below w.heap.size w w' := by
  have EF := Lib.hid (equalT_any ts n hn hl w A A2 c c2 h1 h2)
  clear h1 h2 hn
  go_enter Tryd.func11, Tryd.ntmps11
  go_wp2_with fail
  refine EF.out.mono ?_
  rintro e w1 ⟨rfl, hb⟩
  go_wp2_with fail
  go_ret
  exact ⟨rfl, hb⟩

set_option maxRecDepth 100000 in
set_option maxHeartbeats 2000000 in
theorem tokenReads_any (A : Option Addr) (c : Nat) (l : List UInt8) (hl : l.length ≤ maxLen) (w : World) (henv : Env w) (hA : ByAt w.heap.size w A c l) :
    Calls Tryd.prog 3 #[.slice A l.length c] w fun e w' => e = .returned (.bool true) ∧ Below w.heap.size w w' := by
  have AL := Lib.hid (fun w1 (hB : Below w.heap.size w w1) => alive6_any w1 (henv.below hB))
  unfold maxLen at hl
  by_cases hbig : l.length ≤ 2000
  · have hd : decide ((2000 : Int) < (l.length : Int)) = false := by simp; omega
    have TK := Lib.hid (tokens_any _ c A l (by omega) w henv hA)
    have RT := Lib.hid (fun (w1 : World) (hB : Below w.heap.size w w1) => refTokens_any w.heap.size c A l (by omega) w1 (hA.below hB))
    clear hA henv
    obtain ⟨n, hn⟩ : ∃ n, l.length = n := ⟨_, rfl⟩
    rw [hn] at TK RT hd hbig hl
    rw [hn]
    have HN := Lib.hid hn
    clear hn
    go_enter Tryd.func3, Tryd.ntmps3
    go_wp2_with fail
    refine TK.out.mono ?_
    rintro e w1 ⟨v, ts, x, rfl, ho, hit, hb⟩
    obtain ⟨Av, cv, rfl⟩ := own_any ho
    have hlen := hit.len
    rw [HN.out] at hlen
    have HIT := Lib.hid hit
    have HB := Lib.hid hb
    have HS := Lib.hid (tk_sl ho)
    have RT := Lib.hid (RT.out _ hb)
    clear TK ho hb hit
    go_wp2_with fail
    refine RT.out.mono ?_
    rintro e w2 ⟨v2, ts2, x2, rfl, ho2, hit2, hb2⟩
    obtain ⟨rfl, rfl⟩ := HIT.out.det hit2
    obtain ⟨Av2, cv2, rfl⟩ := own_any ho2
    have HB2 := Lib.hid (below_next HB.out hb2)
    have HS1 := Lib.hid (HS.out.below hb2)
    have HS2 := Lib.hid (tk_sl ho2)
    have AL := Lib.hid (AL.out _ HB2.out)
    obtain ⟨tn, htn⟩ : ∃ tn, ts.length = tn := ⟨_, rfl⟩
    rw [htn] at hlen
    rw [htn]
    have HTN := Lib.hid htn
    clear RT ho2 hit2 hb2 HS htn
    go_wp2_with fail
    refine AL.out.mono ?_
    rintro e w3 ⟨rfl, h3⟩
    have HB3 := Lib.hid (below_next HB2.out h3)
    have SM := Lib.hid (same_any ts tn HTN.out (by omega) w3 Av Av2 cv cv2 (HS1.out.below h3) (HS2.out.below h3))
    clear h3 AL
    go_wp2_with fail
    refine SM.out.mono ?_
    rintro e w4 ⟨rfl, h4⟩
    have HB4 := Lib.hid (below_next HB3.out h4)
    clear h4
    go_wp2_with fail
    go_ret
    exact ⟨rfl, HB4.out⟩
  · have hd : decide ((2000 : Int) < (l.length : Int)) = true := by simp; omega
    have AL := Lib.hid (AL.out w (Below.refl _ _))
    clear hA henv
    generalize l.length = n at *
    go_enter Tryd.func3, Tryd.ntmps3
    go_wp2_with fail
    refine AL.out.mono ?_
    rintro e w1 ⟨rfl, hb⟩
    go_wp2_with fail
    go_ret
    exact ⟨rfl, hb⟩
end Go.Proofs.YtpklpfncohdlhaaDoor
