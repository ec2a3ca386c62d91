/- The reference's Split. -/
import Derived.Test.YtldlghfjinpnkaaDoorRef05
namespace Go.Proofs.YtldlghfjinpnkaaDoor
open Go.RowKit

/-- What Split answers. -/
def RsPost (T : TypeId) (l : List UInt8) (w : World) (e' : Ending) (w' : World) : Prop :=
  ∃ v vs fs R k, e' = .returned (.tuple #[v, .int .i64 ((R.length : Nat) : Int)]) ∧ w'.ownsRow w.heap.size T 2 v fs.length (flatL enc2 vs) ∧ FrsAt (fun _ => True) w' vs fs ∧ Below w.heap.size w w' ∧ Runs l 0 fs R k ∧ Done R k

def lenV : Value → Nat
  | .slice _ n _ => n
  | _ => 0

theorem frs_count2 {l R : List UInt8} {k : Nat} {fs : List Fr} (h : Runs l 0 fs R k) (hl : l.length ≤ 1000000) : fs.length ≤ 500000 := by
  have := h.len.1
  omega

theorem rs_add {P : Nat → Prop} {T : TypeId} (hT : T ≠ 5) {base : Nat} {w wr W w2 : World} {v v' : Value} {vs us : List (Int × Value)} {fs gs : List Fr} (hO : wr.ownsRow base T 2 v fs.length (flatL enc2 vs)) (hF : FrsAt P wr vs fs) (hB : Below base w wr) (hz : base ≤ wr.heap.size) (hW : Below wr.heap.size wr W) (hd : FrsAt P W us gs) (hl : us.length = gs.length)
    (hO2 : w2.ownsRow base T 2 v' (fs.length + us.length) (flatL enc2 vs ++ flatL enc2 us)) (hg : W.grownBy w2 v.ownBlock) :
    w2.ownsRow base T 2 v' (fs ++ gs).length (flatL enc2 (vs ++ us)) ∧ FrsAt P w2 (vs ++ us) (fs ++ gs) ∧ Below base w w2 := by
  have hk := keeps_row (T := 5) (own_below hO hW) hT hg
  refine ⟨?_, ((hF.keeps (keeps_below hW)).append hd).keeps hk, (hB.trans (hW.mono hz)).grown hg (Nat.le_trans hz hW.size) (fun k hk => (hO.lt k hk).1)⟩
  rw [flatL_append, List.length_append, ← hl]
  exact hO2
theorem ByAt.again {w w1 w2 : World} {A : Option Addr} {c : Nat} {l : List UInt8} (h : ByAt w.heap.size w1 A c l) (h1 : Below w.heap.size w w1) (h2 : Below w.heap.size w w2) : ByAt w.heap.size w2 A c l := by
  refine ⟨h.le, ?_⟩
  rcases h.lies with h0 | ⟨b, off, hA, hlt, hw, hc⟩
  · exact .inl h0
  · exact .inr ⟨b, off, hA, hlt, Nat.lt_of_lt_of_le hlt h2.size, fun j hj => (h2.cell (p := ⟨b, off + j, none⟩) hlt).trans ((h1.cell (p := ⟨b, off + j, none⟩) hlt).symm.trans (hc j hj))⟩

set_option maxRecDepth 100000 in
set_option maxHeartbeats 4000000 in
theorem refSplit_any (B c n : Nat) (A : Option Addr) (l : List UInt8) (hn : l.length = n) (hl : n ≤ 1000000) (w : World) (hA : ByAt B w A c l) :
    Calls Tryd.prog 12 #[.slice A n c] w (RsPost 51 l w) := by
  obtain ⟨i0, hi, hz0, hz1, hz2⟩ := info_parts infoF5
  have HA := Lib.hid hA.here
  have HN := Lib.hid hn
  have hse := fun x lo hi mx W => sliceAt_eq x lo hi mx W
  clear hA hn
  go_enter Tryd.func12, Tryd.ntmps12
  go_wp2_with fail
  go_loopw [0, 4] (fun b v wr => ∃ (A' : Option Addr) (c' m : Nat) (R : List UInt8) (vs : List (Int × Value)) (fs : List Fr), b = .slice A' m c' ∧ Hid (R.length = m) ∧ m ≤ n ∧ Hid (ByAt w.heap.size wr A' c' R) ∧ Hid (Runs l 0 fs R 0) ∧ Hid (wr.ownsRow w.heap.size 51 2 v fs.length (flatL enc2 vs)) ∧ Hid (FrsAt (fun _ => True) wr vs fs) ∧ Hid (Below w.heap.size w wr)) (fun b _ _ => lenV b)
  case atStart => exact ⟨A, c, n, l, [], [], rfl, HN, Nat.le_refl _, HA, .nil _ _, World.ownsRow_nil _ _ _ _, .nil, Below.refl _ _⟩
  case round =>
    obtain ⟨A', c', m, R, vs, fs, rfl, hRm, hmn, hBy, hR, hO, hF, hB⟩ := hrel
    have CM := Lib.hid (refCommand_any w.heap.size c' m A' R hRm.out (by omega) wr hBy.out)
    obtain ⟨Av, cv, hv⟩ := own_any hO.out
    subst hv
    have hwz := hB.out.size
    go_wp2_with fail
    refine CM.out.mono ?_
    rintro e' w1 ⟨v2, vs2, fs2, x, rfl, ho2, hf2, hb2, hx⟩
    obtain ⟨Av2, cv2, hv2⟩ := own_any ho2
    subst hv2
    have hl2 := hf2.len
    have HO1 := Lib.hid (own_below hO.out hb2)
    have HS2 := Lib.hid (SlAt.of_own enc2_len (hl2.symm ▸ ho2 : w1.ownsRow wr.heap.size 51 2 (.slice Av2 fs2.length cv2) vs2.length (flatL enc2 vs2)))
    have HL2 := Lib.hid hl2
    have hzz : w.heap.size ≤ w1.heap.size := Nat.le_trans hwz hb2.size
    have HR2 : ∃ k2, Runs R 0 fs2 (if x = -1 then R else R.drop x.toNat) k2 := by
      rcases hx with ⟨q, rfl, _, _, h⟩ | ⟨rfl, k2, h, _⟩
      · rw [if_neg (by omega)]
        exact ⟨0, h⟩
      · exact ⟨k2, by simpa using h⟩
    obtain ⟨k2, HR2⟩ := HR2
    have hc2 := frs_count2 (hR.out.trans HR2) (by rw [HN.out]; exact hl)
    rw [List.length_append] at hc2
    have hc3 : vs2.length ≤ 500000 := by omega
    have HF2 := Lib.hid hf2
    have HB2 := Lib.hid hb2
    have hc1 : fs.length ≤ 500000 := by omega
    have hcs : fs.length + vs2.length ≤ 500000 := by omega
    rw [← hl2]
    clear ho2 hf2 hb2 hl2 CM HR2 hc2
    rcases hx with ⟨q, rfl, hq1, hq2, hR2⟩ | ⟨rfl, k2, hR2, hD2⟩
    · have HRun := Lib.hid (hR.out.trans hR2)
      have hq : q ≤ m := by rw [← hRm.out]; exact hq1
      have hsl := fun W => slice_l A' m c' q hq W
      have hf : decide ((q : Int) < 0) = false := by simp
      have HLq := Lib.hid (show (R.drop q).length = m - q by rw [List.length_drop, hRm.out])
      have HQ1 := Lib.hid hq1
      clear hR2 hq1
      go_wp2_with (at_builtin; refine wpList_append_sl _ rfl (.tmp 12) (.tmp 13) 30 rfl w.heap.size 51 i0 _ 32 Tryd.underlying30 hi hz0 hz1 hz2 rfl (by decide) _ fs.length (flatL enc2 vs) rfl HO1.out Av2 vs2 cv2 rfl enc2_len HS2.out (one_flat2 HF2.out) (by simp only [maxLen]; omega) (by omega) hzz ?_; intro v3 w3 hv3 hg3)
      obtain ⟨q1, q2, q3⟩ := rs_add (by decide) hO.out hF.out hB.out hwz HB2.out HF2.out HL2.out hv3 hg3
      have HBq := Lib.hid ((hBy.out.again hB.out q3).drop (lo := q) HQ1.out)
      have Q1 := Lib.hid q1
      have Q2 := Lib.hid q2
      have Q3 := Lib.hid q3
      clear q1 q2 q3 hv3 hg3
      go_wp2_with fail
      go_roundw
      case rel => exact ⟨_, _, m - q, R.drop q, _, _, rfl, HLq, by omega, HBq, HRun, Q1, Q2, Q3⟩
      case measure => simp [lenV]; omega
    · have HRun := Lib.hid (hR.out.trans hR2)
      have HD2 := Lib.hid hD2
      clear hR2 hD2
      go_wp2_with (at_builtin; refine wpList_append_sl _ rfl (.tmp 12) (.tmp 13) 30 rfl w.heap.size 51 i0 _ 32 Tryd.underlying30 hi hz0 hz1 hz2 rfl (by decide) _ fs.length (flatL enc2 vs) rfl HO1.out Av2 vs2 cv2 rfl enc2_len HS2.out (one_flat2 HF2.out) (by simp only [maxLen]; omega) (by omega) hzz ?_; intro v3 w3 hv3 hg3)
      obtain ⟨q1, q2, q3⟩ := rs_add (by decide) hO.out hF.out hB.out hwz HB2.out HF2.out HL2.out hv3 hg3
      have Q1 := Lib.hid q1
      have Q2 := Lib.hid q2
      have Q3 := Lib.hid q3
      clear q1 q2 q3 hv3 hg3
      go_wp2_with fail
      go_ret2
      exact ⟨_, _, _, R, k2, by rw [hRm.out]; rfl, Q1.out, Q2.out, Q3.out, HRun.out, HD2.out⟩
end Go.Proofs.YtldlghfjinpnkaaDoor
