/- The laws of layer 13: play, of a call that puts. -/
import Derived.Test.YtcfpdflaabfdkaaL13B
namespace Go.Proofs.Ytcfpdflaabfdkaa
open Go.RowKit

/-- The reference's Put, in all its cases. -/
theorem rput_all (S : Nat → Prop) (m : MI) (A : Option Addr) (c : Nat) (L : List MI) (hl : L.length ≤ 100000) (W : World) (hS : SlAt encM 3 W A L) (ho : Out S A) (hlt : ∀ a, A = some a → a.block < W.heap.size) (hW : ∀ k, S k → k < W.heap.size) :
    Calls Try.prog 27 #[.slice A L.length c, msV m] W fun e w' => ∃ A' c', e = .returned (.tuple #[.slice A' (putM L m).1.length c', .int .i64 (putM L m).2]) ∧
      SlAt encM 3 w' A' (putM L m).1 ∧ Out S A' ∧ (∀ a, A' = some a → a.block < w'.heap.size) ∧ Fr A A' W ∧ Below W.heap.size W w' := by
  unfold putM
  by_cases h1 : m.u = 0 ∨ 31 < m.f ∨ 65536 < m.b.length
  · rw [if_pos h1]
    refine (rput13_bad (A := A) (c := c) (l := L) m h1).mono ?_
    rintro e w' ⟨rfl, hb⟩
    exact ⟨A, c, rfl, hS.below hb, ho, fun a ha => Nat.lt_of_lt_of_le (hlt a ha) hb.size, .inl rfl, hb⟩
  · rw [if_neg h1]
    by_cases h2 : 0 ≤ fdI L m.u
    · rw [if_pos h2]
      refine (rput13_dup (A := A) (c := c) (l := L) m h1 h2 hl hS).mono ?_
      rintro e w' ⟨rfl, hb⟩
      exact ⟨A, c, rfl, hS.below hb, ho, fun a ha => Nat.lt_of_lt_of_le (hlt a ha) hb.size, .inl rfl, hb⟩
    · rw [if_neg h2]
      refine (rput13_yes (A := A) (c := c) (l := L) m h1 h2 hl hS).mono ?_
      rintro e w' ⟨v, rfl, hown, hb⟩
      obtain ⟨A', c', rfl⟩ := own_any hown
      exact ⟨A', c', rfl, SlAt.of_own encM_len hown, own_out hown hW, own_blk hown, .inr (own_base hown), hb⟩
theorem putM_mem {L : List MI} {m x : MI} (h : x ∈ (putM L m).1) : x ∈ L ∨ x = m := by
  unfold putM at h
  split at h
  · exact .inl h
  · split at h
    · exact .inl h
    · rcases List.mem_append.1 h with h | h
      · exact .inl h
      · exact .inr (by simpa using h)
theorem by_out {B : Nat} {w : World} {A : Option Addr} {c : Nat} {l : List UInt8} {S : Nat → Prop} (h : ByAt B w A c l) (hS : ∀ k, S k → B ≤ k) : l = [] ∨ Out S A := by
  rcases h.lies with h | ⟨b, off, rfl, hb, _⟩
  · exact .inl h
  · refine .inr fun a ha hs => ?_
    injection ha with ha
    subst ha
    have := hS _ hs
    simp only at this
    omega

set_option maxRecDepth 100000 in
set_option maxHeartbeats 4000000 in
theorem play_put (B g n : Nat) (S : Nat → Prop) (A : Option Addr) (c : Nat) (L : List MI) (o : OI) (w : World) (h : PlS B g n S A L w) (hl : L.length ≤ 100000) (hu : o.m.u ≤ 4294967295) (hf : o.m.f ≤ 255) (hb : ByAt B w o.m.A o.m.k o.m.b) (k0 : o.kind = 0) :
    Calls Try.prog 13 #[.pointer (some ⟨g, 0, none⟩), .slice A L.length c, opV o] w fun e w' => ∃ S' A' c', e = .returned (.tuple #[.slice A' (putM L o.m).1.length c', .bool true]) ∧ PlS B g n S' A' (putM L o.m).1 w' ∧ More S S' w ∧ KeptO S w w' ∧ Fr A A' w := by
  unfold opV
  rw [k0]
  clear k0
  have FD := Lib.hid (fun W (hB : Below w.heap.size w W) => rfind13_any (c := c) o.m.u hl (h.sl.below hB))
  have RP := Lib.hid (fun W (hB : Below w.heap.size w W) => rput_all S o.m A c L hl W (h.sl.below hB) h.out (fun a ha => Nat.lt_of_lt_of_le (h.lt a ha) hB.size) (fun k hk => Nat.lt_of_lt_of_le (h.tb.lt k hk) hB.size))
  have TP := Lib.hid (fun W (hB : Below w.heap.size w W) => tput_any o.m hu hf (((hb.mono h.bw).below hB).mono hB.size) (by_out hb h.sb) (h.tb.below hB) hl)
  have NX := Lib.hid (fun (A' : Option Addr) (S' : Nat → Prop) (w2 w3 : World) => h.next (A' := A') (S' := S') (L' := (putM L o.m).1) (w2 := w2) (w3 := w3))
  have NM := Lib.hid (fun x (hx : x ∈ (putM L o.m).1) => (show ByAt B w x.A x.k x.b from by
    rcases putM_mem hx with hx | rfl
    · exact h.by_ x hx
    · exact hb))
  have HH := Lib.hid h
  have HB2 := Lib.hid (fun o1 o2 => below_next (below_al w o1) (below_al (w.alloc o1) o2))
  have HB3 := Lib.hid (fun o1 o2 o3 => below_next (below_next (below_al w o1) (below_al (w.alloc o1) o2)) (below_al ((w.alloc o1).alloc o2) o3))
  unfold msV at RP TP
  generalize hQ : putM L o.m = Q at *
  clear h hb hQ
  rcases fdI_get L o.m.u with ⟨hd, -⟩ | ⟨k, hk, hd, -, -⟩
  · rw [hd] at FD
    generalize o.m.u = u at *
    generalize o.m.f = f at *
    generalize o.m.b.length = bl at *
    go_enter Try.func13, Try.ntmps13
    go_wp2_with fail
    refine (FD.out _ (HB2.out _ _)).mono ?_
    rintro e w1 ⟨rfl, rfl⟩
    go_wp2_with fail
    refine (RP.out _ (HB3.out _ _ _)).mono ?_
    rintro e w2 ⟨A', c', rfl, q1, q2, q3, q4, hb2⟩
    have HBW := Lib.hid (below_next (HB3.out _ _ _) hb2)
    have HQ := Lib.hid (And.intro q1 (And.intro q2 q3))
    have HFR := Lib.hid (q4.mono (w := w) (HB3.out _ _ _).size)
    obtain ⟨m0, m1, m2⟩ := cells3 ((hb2.block (w.heap.size + 1) (by simp)).trans (heap_past2 _ _ _ (by simp) (heap_new1 _ _ (by simp))))
    clear q1 q2 q3 q4 hb2 RP FD
    go_wp2_with fail
    refine (TP.out _ HBW.out).mono ?_
    rintro e w3 ⟨S', rfl, ht, hm, hk⟩
    have HZ := Lib.hid (NX.out A' S' w2 w3 HBW.out HQ.out.1 HQ.out.2.1 HQ.out.2.2 NM.out ht hm hk)
    clear ht hm hk
    go_wp2_with fail
    go_ret2
    exact ⟨S', A', c', by first | rfl | simp, HZ.out.1, HZ.out.2.1, HZ.out.2.2, HFR.out⟩
  · rw [hd] at FD
    obtain ⟨b, off, rfl, hb, c0, c1, c2⟩ := HH.out.sl.msg hk
    have hkI : (k : Int) < (L.length : Int) := by omega
    have hk0 : (0 : Int) ≤ (k : Int) := by omega
    generalize L[k] = y at *
    generalize o.m.u = u at *
    generalize o.m.f = f at *
    generalize o.m.b.length = bl at *
    have hW := HB3.out (.cells #[.int .i64 0, .int .u32 (u : Int), .int .u8 (f : Int), .slice o.m.A bl o.m.k, .int .i64 o.mode] 35) (.cells #[.int .u32 (u : Int), .int .u8 (f : Int), .slice o.m.A bl o.m.k] 33) (.cells #[.int .u32 0, .int .u8 0, .slice none 0 0] 33)
    replace c0 := (hW.cell (p := ⟨b, off + k * 3, none⟩) hb).trans c0
    replace c1 := (hW.cell (p := ⟨b, off + k * 3 + 1, none⟩) hb).trans c1
    replace c2 := (hW.cell (p := ⟨b, off + k * 3 + 2, none⟩) hb).trans c2
    clear hW
    go_enter Try.func13, Try.ntmps13
    go_wp2_with fail
    refine (FD.out _ (HB2.out _ _)).mono ?_
    rintro e w1 ⟨rfl, rfl⟩
    go_wp2_with fail
    refine (RP.out _ (HB3.out _ _ _)).mono ?_
    rintro e w2 ⟨A', c', rfl, q1, q2, q3, q4, hb2⟩
    have HBW := Lib.hid (below_next (HB3.out _ _ _) hb2)
    have HQ := Lib.hid (And.intro q1 (And.intro q2 q3))
    have HFR := Lib.hid (q4.mono (w := w) (HB3.out _ _ _).size)
    obtain ⟨m0, m1, m2⟩ := cells3 ((hb2.block (w.heap.size + 1) (by simp)).trans (heap_past2 _ _ _ (by simp) (heap_new1 _ _ (by simp))))
    clear q1 q2 q3 q4 hb2 RP FD c0 c1 c2
    go_wp2_with fail
    refine (TP.out _ HBW.out).mono ?_
    rintro e w3 ⟨S', rfl, ht, hm, hk⟩
    have HZ := Lib.hid (NX.out A' S' w2 w3 HBW.out HQ.out.1 HQ.out.2.1 HQ.out.2.2 NM.out ht hm hk)
    clear ht hm hk
    go_wp2_with fail
    go_ret2
    exact ⟨S', A', c', by first | rfl | simp, HZ.out.1, HZ.out.2.1, HZ.out.2.2, HFR.out⟩
end Go.Proofs.Ytcfpdflaabfdkaa
