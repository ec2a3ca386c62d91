/- quote: the scanner's quoted. -/
import Derived.Test.YtpklpfncohdlhaaDoorScanC
namespace Go.Proofs.YtpklpfncohdlhaaDoor
open Go.RowKit

/-- What quoted answers where its mark lies at place k. -/
def QPost (bs c : Nat) (A : Option Addr) (l : List UInt8) (k : Nat) (e : Ending) (w' : World) : Prop :=
  (∃ P n, qScan (l.drop (k + 1)) = some (P, n) ∧ e = .returned (.tuple #[.slice (offA A c (k + 1)) n (c - (k + 1)), .bool true]) ∧ Cur bs A c l ((k + 1 + n + 1 : Nat) : Int) w') ∨
  (qScan (l.drop (k + 1)) = none ∧ e = .returned (.tuple #[.slice none 0 0, .bool false]))

set_option maxRecDepth 100000 in
set_option maxHeartbeats 1000000 in
theorem quotedF_mark (bs c : Nat) (A : Option Addr) (l : List UInt8) (k : Nat) (hm : l[k]? = some 34) (hl : l.length ≤ 1000000000) (w : World) (h : Cur bs A c l (k : Int) w) :
    Calls Tryd.prog 59 #[.pointer (some ⟨bs, 0, none⟩)] w fun e w' => QPost bs c A l k e w' ∧ Below bs w w' := by
  have hk : k < l.length := (List.getElem?_eq_some_iff.1 hm).1
  have hle := h.lies.le
  have hbs := h.lt
  have P := Lib.hid (pass_t bs c A l k 34 hm hl w h)
  have PT := Lib.hid (fun p hp w1 hc => pass_t bs c A l p 34 hp hl w1 hc)
  have PF := Lib.hid (fun p hp hx w1 hc => pass_f bs c A l p hp 34 hx hl w1 hc)
  have CT := Lib.hid (fun p n hn h0 w1 hc => char_t bs c A l p n hn h0 hl w1 hc)
  have CF := Lib.hid (fun p hp hn w1 hc => char_f bs c A l p hp hn hl w1 hc)
  have HQ := Lib.hid (QAt.start l (k + 1))
  clear h hm
  have hkf : ((k : Int) + 1) = ((k + 1 : Nat) : Int) := by omega
  obtain ⟨f, hf⟩ : ∃ f, k + 1 = f := ⟨_, rfl⟩
  rw [hkf, hf] at P
  rw [hf] at HQ
  have HF := Lib.hid hf
  have hf1 : f ≤ l.length := by omega
  have hse := fun x lo hi mx W => sliceAt_eq x lo hi mx W
  clear hkf hf
  go_enter Tryd.func59, Tryd.ntmps59
  go_wp2_with fail
  refine P.out.mono ?_
  rintro e w1 ⟨rfl, hc1, hb1⟩
  have c1 := hc1.out.c1
  clear P
  go_wp2_with fail
  go_loopg [15] l.length (fun gg _ wr => ∃ (p : Nat) (X : List UInt8), p ≤ l.length ∧ l.length - p ≤ gg ∧ f ≤ p ∧ Hid (Cur bs A c l (p : Int) wr) ∧ Hid (QAt l f p X) ∧ Hid (Below bs w wr))
  case atStart => exact ⟨f, [], by omega, by omega, by omega, hc1, HQ, hb1⟩
  case round =>
    obtain ⟨p, X, hp, hgg, hfp, hC, hX, hB⟩ := hrel
    clear c1 hc1 HQ hb1
    by_cases h34 : l[p]? = some 34
    · have PT := Lib.hid (PT.out p h34 wr hC.out)
      have HR := Lib.hid (hX.out.mark h34)
      clear h34 PF CT CF
      go_wp2_with fail
      refine PT.out.mono ?_
      rintro e w2 ⟨rfl, hc2, hb2⟩
      have hB2 := Lib.hid (hB.out.trans hb2)
      have c0 := hc2.out.c0
      have c1 := hc2.out.c1
      have hsl := fun W => slice_lh A l.length c f p hfp (by omega) W
      have hsum : IntKind.i64.wrap ((p : Int) + 1 - 1) = (p : Int) := by rw [Go.IntWalk.i64_in _ (by omega)]; omega
      clear hb2 PT
      go_wp2_with fail
      go_quiet (fail)
      go_wp2_with fail
      go_ret2
      refine ⟨?_, hB2.out.trans ((drewN_below w2 _).mono (Nat.le_of_lt hc2.out.lt))⟩
      unfold QPost
      rw [HF.out]
      exact Or.inl ⟨X, p - f, HR.out, rfl, (hc2.out.grow (drewN_below w2 _)).cast (by omega)⟩
    · have PF := Lib.hid (PF.out p hp h34 wr hC.out)
      have HX := Lib.hid (fun n hn h0 => hX.out.go h34 (n := n) hn h0)
      have HS := Lib.hid (fun hn => hX.out.stop h34 hn)
      have hle2 := chN_le (l.drop p)
      rw [List.length_drop] at hle2
      clear h34 PT
      cases hn : chN (l.drop p) with
      | zero =>
        have CF := Lib.hid (CF.out p hp hn)
        have HN := Lib.hid (HS.out hn)
        clear hn hle2 CT HX HS
        go_wp2_with fail
        refine PF.out.mono ?_
        rintro e w2 ⟨rfl, hc2, hb2⟩
        have CF := Lib.hid (CF.out w2 hc2.out)
        have hB2 := Lib.hid (hB.out.trans hb2)
        clear hb2 PF
        go_wp2_with fail
        refine CF.out.mono ?_
        rintro e w3 ⟨rfl, hb3⟩
        have hB3 := Lib.hid (hB2.out.trans hb3)
        clear hb3 CF
        go_wp2_with fail
        go_ret2
        refine ⟨?_, hB3.out⟩
        unfold QPost
        rw [HF.out]
        exact Or.inr ⟨HN.out, rfl⟩
      | succ m =>
        have CT := Lib.hid (CT.out p (m + 1) hn (by omega))
        have HN := Lib.hid (HX.out (m + 1) hn (by omega))
        rw [hn] at hle2
        clear hn CF HX HS
        go_wp2_with fail
        refine PF.out.mono ?_
        rintro e w2 ⟨rfl, hc2, hb2⟩
        have CT := Lib.hid (CT.out w2 hc2.out)
        have hB2 := Lib.hid (hB.out.trans hb2)
        clear hb2 PF
        go_wp2_with fail
        refine CT.out.mono ?_
        rintro e w3 ⟨rfl, hc3, hb3⟩
        have hB3 := Lib.hid (hB2.out.trans hb3)
        clear hb3 CT
        go_wp2_with fail
        go_roundg (l.length - (p + (m + 1)))
        case measure => omega
        case rel => exact ⟨p + (m + 1), _, by omega, by omega, by omega, hc3, HN.out, hB3⟩

set_option maxRecDepth 100000 in
theorem quotedF_no (bs c : Nat) (A : Option Addr) (l : List UInt8) (k : Nat) (hk : k ≤ l.length) (hm : l[k]? ≠ some 34) (hl : l.length ≤ 1000000000) (w : World) (h : Cur bs A c l (k : Int) w) :
    Calls Tryd.prog 59 #[.pointer (some ⟨bs, 0, none⟩)] w fun e w' => e = .returned (.tuple #[.slice none 0 0, .bool false]) ∧ Below bs w w' := by
  have P := Lib.hid (pass_f bs c A l k hk 34 hm hl w h)
  clear h hm
  go_enter Tryd.func59, Tryd.ntmps59
  go_wp2_with fail
  refine P.out.mono ?_
  rintro e w1 ⟨rfl, _, hb1⟩
  go_wp2_with fail
  go_ret2
  exact ⟨rfl, hb1⟩

set_option maxRecDepth 100000 in
theorem quotedF_out (bs c : Nat) (A : Option Addr) (l : List UInt8) (x : Int) (h1 : -9223372036854775808 ≤ x) (h2 : x ≤ 9223372036854775807) (hx : x < 0 ∨ (l.length : Int) < x) (hl : l.length ≤ 1000000000) (w : World) (h : Cur bs A c l x w) :
    Calls Tryd.prog 59 #[.pointer (some ⟨bs, 0, none⟩)] w fun e w' => e = .returned (.tuple #[.slice none 0 0, .bool false]) ∧ Below bs w w' := by
  have P := Lib.hid (pass_out bs c A l x h1 h2 hx 34 hl w h)
  clear h hx h1 h2
  go_enter Tryd.func59, Tryd.ntmps59
  go_wp2_with fail
  refine P.out.mono ?_
  rintro e w1 ⟨rfl, _, hb1⟩
  go_wp2_with fail
  go_ret2
  exact ⟨rfl, hb1⟩
end Go.Proofs.YtpklpfncohdlhaaDoor
