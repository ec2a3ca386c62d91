/- The laws of layer 13: play, of a call that changes flags. -/
import Derived.Test.YtcfpdflaabfdkaaL13C
namespace Go.Proofs.Ytcfpdflaabfdkaa
open Go.RowKit

theorem flM_found {l : List MI} {u k : Nat} (mo : Int) (f : Nat) (hk : k < l.length) (hd : fdI l u = (k : Int)) : flM l u mo f = match changeO l[k].f mo f with | some x => (l.set k { l[k] with f := x }, (x : Int), 0) | none => (l, 0, 2) := by
  unfold flM
  simp only [hd, Int.toNat_natCast]
  rw [dif_pos ⟨hk, Int.natCast_nonneg k⟩]
  rfl
theorem flM_bd (l : List MI) (u : Nat) (mo : Int) (f : Nat) : 0 ≤ (flM l u mo f).2.1 ∧ (flM l u mo f).2.1 ≤ 31 := by
  rcases fdI_get l u with ⟨hd, -⟩ | ⟨k, hk, hd, -, -⟩
  · rw [flM_none mo f hd]; exact ⟨by simp, by simp⟩
  · rw [flM_found mo f hk hd]
    cases hc : changeO l[k].f mo f with
    | none => exact ⟨by simp, by simp⟩
    | some x =>
      have := changeO_le hc
      exact ⟨by show (0 : Int) ≤ (x : Int); omega, by show (x : Int) ≤ 31; omega⟩
/-- The reference's Flags, in all its cases. -/
theorem rflags_all (S : Nat → Prop) (u f : Nat) (mo : Int) (hf : f ≤ 255) (A : Option Addr) (c : Nat) (L : List MI) (hl : L.length ≤ 100000) (hL : ∀ m ∈ L, m.f < 256) (W : World) (hS : SlAt encM 3 W A L) (ho : Out S A) (hlt : ∀ a, A = some a → a.block < W.heap.size) (hW : ∀ k, S k → k < W.heap.size) :
    Calls Try.prog 28 #[.slice A L.length c, .int .u32 u, .int .i64 mo, .int .u8 f] W fun e w' => ∃ A' c', e = .returned (.tuple #[.slice A' (flM L u mo f).1.length c', .int .i64 (flM L u mo f).2.1, .int .i64 (flM L u mo f).2.2]) ∧
      SlAt encM 3 w' A' (flM L u mo f).1 ∧ Out S A' ∧ (∀ a, A' = some a → a.block < w'.heap.size) ∧ Fr A A' W ∧ Below W.heap.size W w' := by
  rcases fdI_get L u with ⟨hd, -⟩ | ⟨k, hk, hd, -, -⟩
  · rw [flM_none mo f hd]
    refine (rflags13_none (A := A) (c := c) (l := L) u f mo hd hl hS).mono ?_
    rintro e w' ⟨rfl, rfl⟩
    exact ⟨A, c, rfl, hS, ho, hlt, .inl rfl, Below.refl _ _⟩
  · rw [flM_found mo f hk hd]
    cases hc : changeO L[k].f mo f with
    | none =>
      refine (rflags13_bad (A := A) (c := c) (l := L) u f k mo hk hd (hL _ (List.getElem_mem _)) (by omega) hc hl hS).mono ?_
      rintro e w' ⟨rfl, rfl⟩
      exact ⟨A, c, rfl, hS, ho, hlt, .inl rfl, Below.refl _ _⟩
    | some x =>
      have := changeO_le hc
      refine (rflags13_ok (A := A) (c := c) (l := L) u f k x mo hk hd (hL _ (List.getElem_mem _)) (by omega) hc (by omega) hl hS).mono ?_
      rintro e w' ⟨v, rfl, hown, hb⟩
      obtain ⟨A', c', rfl⟩ := own_any hown
      exact ⟨A', c', rfl, SlAt.of_own encM_len hown, own_out hown hW, own_blk hown, .inr (own_base hown), hb⟩
theorem flM_mem {L : List MI} {u f : Nat} {mo : Int} {x : MI} (h : x ∈ (flM L u mo f).1) : ∃ y ∈ L, x.A = y.A ∧ x.k = y.k ∧ x.b = y.b := by
  rcases fdI_get L u with ⟨hd, -⟩ | ⟨k, hk, hd, -, -⟩
  · rw [flM_none mo f hd] at h
    exact ⟨x, h, rfl, rfl, rfl⟩
  · rw [flM_found mo f hk hd] at h
    cases hc : changeO L[k].f mo f with
    | none => rw [hc] at h; exact ⟨x, h, rfl, rfl, rfl⟩
    | some z =>
      rw [hc] at h
      rcases List.mem_or_eq_of_mem_set h with h | rfl
      · exact ⟨x, h, rfl, rfl, rfl⟩
      · exact ⟨L[k], List.getElem_mem _, rfl, rfl, rfl⟩

set_option maxRecDepth 100000 in
set_option maxHeartbeats 4000000 in
theorem play_flags (B g n : Nat) (S : Nat → Prop) (A : Option Addr) (c : Nat) (L : List MI) (o : OI) (w : World) (h : PlS B g n S A L w) (hl : L.length ≤ 100000) (hu : o.m.u ≤ 4294967295) (hf : o.m.f ≤ 255) (hmo : -9223372036854775808 ≤ o.mode ∧ o.mode ≤ 9223372036854775807) (k1 : o.kind = 1) :
    Calls Try.prog 13 #[.pointer (some ⟨g, 0, none⟩), .slice A L.length c, opV o] w fun e w' => ∃ S' A' c', e = .returned (.tuple #[.slice A' (flM L o.m.u o.mode o.m.f).1.length c', .bool true]) ∧ PlS B g n S' A' (flM L o.m.u o.mode o.m.f).1 w' ∧ More S S' w ∧ KeptO S w w' ∧ Fr A A' w := by
  unfold opV
  rw [k1]
  clear k1
  have FD := Lib.hid (fun W (hB : Below w.heap.size w W) => rfind13_any (c := c) o.m.u hl (h.sl.below hB))
  have RP := Lib.hid (fun W (hB : Below w.heap.size w W) => rflags_all S o.m.u o.m.f o.mode hf A c L hl (fun m hm => by have := (h.tb.good.ok m hm).2.2.1; omega) W (h.sl.below hB) h.out (fun a ha => Nat.lt_of_lt_of_le (h.lt a ha) hB.size) (fun k hk => Nat.lt_of_lt_of_le (h.tb.lt k hk) hB.size))
  have TP := Lib.hid (fun W (hB : Below w.heap.size w W) => tflags_any o.m.u o.mode o.m.f hu hmo.1 hmo.2 hf (h.tb.below hB) hl)
  have NX := Lib.hid (fun (A' : Option Addr) (S' : Nat → Prop) (w2 w3 : World) => h.next (A' := A') (S' := S') (L' := (flM L o.m.u o.mode o.m.f).1) (w2 := w2) (w3 := w3))
  have NM := Lib.hid (fun x (hx : x ∈ (flM L o.m.u o.mode o.m.f).1) => (show ByAt B w x.A x.k x.b from by
    obtain ⟨y, hy, e1, e2, e3⟩ := flM_mem hx
    rw [e1, e2, e3]
    exact h.by_ y hy))
  obtain ⟨hq1, hq2⟩ := flM_bd L o.m.u o.mode o.m.f
  have HH := Lib.hid h
  have HB2 := Lib.hid (fun o1 o2 => below_next (below_al w o1) (below_al (w.alloc o1) o2))
  have HB3 := Lib.hid (fun o1 o2 o3 => below_next (below_next (below_al w o1) (below_al (w.alloc o1) o2)) (below_al ((w.alloc o1).alloc o2) o3))
  generalize hQ : flM L o.m.u o.mode o.m.f = Q at *
  clear h hQ
  obtain ⟨Q1, Q2, Q3⟩ := Q
  simp only at hq1 hq2 NX NM RP TP ⊢
  rcases fdI_get L o.m.u with ⟨hd, -⟩ | ⟨k, hk, hd, -, -⟩
  · rw [hd] at FD
    generalize o.m.u = u at *
    generalize o.m.f = f at *
    generalize o.m.b.length = bl at *
    go_enter Try.func13, Try.ntmps13
    go_wp2_with fail
    refine (FD.out _ (HB2.out _ _)).mono ?_
    rintro e w1 ⟨rfl, rfl⟩
    go_wp2_with fail
    refine (RP.out _ (HB3.out _ _ _)).mono ?_
    rintro e w2 ⟨A', c', rfl, q1, q2, q3, q4, hb2⟩
    have HBW := Lib.hid (below_next (HB3.out _ _ _) hb2)
    have HQ := Lib.hid (And.intro q1 (And.intro q2 q3))
    have HFR := Lib.hid (q4.mono (w := w) (HB3.out _ _ _).size)
    obtain ⟨m0, m1, m2⟩ := cells3 ((hb2.block (w.heap.size + 1) (by simp)).trans (heap_past2 _ _ _ (by simp) (heap_new1 _ _ (by simp))))
    have m4 := cell_of_row _ _ 4 _ _ _ ((hb2.block w.heap.size (by simp only [World.size_alloc]; omega)).trans (heap_past2 _ _ _ (by simp only [World.size_alloc]; omega) (heap_past2 _ _ _ (by simp only [World.size_alloc]; omega) (heap_new1 _ _ rfl))))
    clear q1 q2 q3 q4 hb2 RP FD
    go_wp2_with fail
    refine (TP.out _ HBW.out).mono ?_
    rintro e w3 ⟨S', rfl, ht, hm, hk⟩
    have HZ := Lib.hid (NX.out A' S' w2 w3 HBW.out HQ.out.1 HQ.out.2.1 HQ.out.2.2 NM.out ht hm hk)
    clear ht hm hk
    go_wp2_with fail
    go_ret2
    exact ⟨S', A', c', by first | rfl | simp, HZ.out.1, HZ.out.2.1, HZ.out.2.2, HFR.out⟩
  · rw [hd] at FD
    obtain ⟨b, off, rfl, hb, c0, c1, c2⟩ := HH.out.sl.msg hk
    have hkI : (k : Int) < (L.length : Int) := by omega
    have hk0 : (0 : Int) ≤ (k : Int) := by omega
    generalize L[k] = y at *
    generalize o.m.u = u at *
    generalize o.m.f = f at *
    generalize o.m.b.length = bl at *
    have hW := HB3.out (.cells #[.int .i64 1, .int .u32 (u : Int), .int .u8 (f : Int), .slice o.m.A bl o.m.k, .int .i64 o.mode] 35) (.cells #[.int .u32 (u : Int), .int .u8 (f : Int), .slice o.m.A bl o.m.k] 33) (.cells #[.int .u32 0, .int .u8 0, .slice none 0 0] 33)
    replace c0 := (hW.cell (p := ⟨b, off + k * 3, none⟩) hb).trans c0
    replace c1 := (hW.cell (p := ⟨b, off + k * 3 + 1, none⟩) hb).trans c1
    replace c2 := (hW.cell (p := ⟨b, off + k * 3 + 2, none⟩) hb).trans c2
    clear hW
    go_enter Try.func13, Try.ntmps13
    go_wp2_with fail
    refine (FD.out _ (HB2.out _ _)).mono ?_
    rintro e w1 ⟨rfl, rfl⟩
    go_wp2_with fail
    refine (RP.out _ (HB3.out _ _ _)).mono ?_
    rintro e w2 ⟨A', c', rfl, q1, q2, q3, q4, hb2⟩
    have HBW := Lib.hid (below_next (HB3.out _ _ _) hb2)
    have HQ := Lib.hid (And.intro q1 (And.intro q2 q3))
    have HFR := Lib.hid (q4.mono (w := w) (HB3.out _ _ _).size)
    obtain ⟨m0, m1, m2⟩ := cells3 ((hb2.block (w.heap.size + 1) (by simp)).trans (heap_past2 _ _ _ (by simp) (heap_new1 _ _ (by simp))))
    have m4 := cell_of_row _ _ 4 _ _ _ ((hb2.block w.heap.size (by simp only [World.size_alloc]; omega)).trans (heap_past2 _ _ _ (by simp only [World.size_alloc]; omega) (heap_past2 _ _ _ (by simp only [World.size_alloc]; omega) (heap_new1 _ _ rfl))))
    clear q1 q2 q3 q4 hb2 RP FD c0 c1 c2
    go_wp2_with fail
    refine (TP.out _ HBW.out).mono ?_
    rintro e w3 ⟨S', rfl, ht, hm, hk⟩
    have HZ := Lib.hid (NX.out A' S' w2 w3 HBW.out HQ.out.1 HQ.out.2.1 HQ.out.2.2 NM.out ht hm hk)
    clear ht hm hk
    go_wp2_with fail
    go_ret2
    exact ⟨S', A', c', by first | rfl | simp, HZ.out.1, HZ.out.2.1, HZ.out.2.2, HFR.out⟩
end Go.Proofs.Ytcfpdflaabfdkaa
