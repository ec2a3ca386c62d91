/- The law StripeKeeps. -/
import Derived.Test.YtcfpdflaabfdkaaL13Z
import Derived.Test.YtcfpdflaabfdkaaL13P
namespace Go.Proofs.Ytcfpdflaabfdkaa
open Go.RowKit

/-- A row of n bytes that may be written. -/
def RowI (A : Option Addr) (n : Nat) (W : World) : Prop := ∀ j, j < n → ∃ b, A = some ⟨b, 0, none⟩ ∧ ∃ y : Int, W.cell? ⟨b, j, none⟩ = some (.int .u8 y) ∧ W.frozen? ⟨b, j, none⟩ = false
/-- The block of a slice's array. -/
def blkO (A : Option Addr) (k : Nat) : Prop := ∃ a, A = some a ∧ k = a.block
theorem RowI.of_own {A : Option Addr} {c base : Nat} {l : List UInt8} {W : World} (h : W.ownsRow base 5 1 (.slice A l.length c) l.length (flatL encB l)) : RowI A l.length W := by
  intro j hj
  rcases h.2 with ⟨h1, h2⟩ | ⟨g, cap, cur, h1, hb, h3, _⟩
  · omega
  · simp only [Value.slice.injEq] at h1
    obtain ⟨rfl, _, rfl⟩ := h1
    refine ⟨g, rfl, ((l[j]'hj).toNat : Int), ?_, h.frozenAt j⟩
    rw [h.cellAt j (by omega)]
    have := flatL_at encB_len l j l[j] (List.getElem?_eq_getElem hj) 0 _ rfl
    rw [show j * 1 + 0 = j by omega] at this
    exact this
theorem RowI.set {A : Option Addr} {n b k : Nat} {W : World} {y : Int} (h : RowI A n W) : RowI A n (W.setCell ⟨b, k, none⟩ (.int .u8 y)) := by
  intro j hj
  obtain ⟨b', h1, z, h2, h3⟩ := h j hj
  by_cases e : (⟨b, k, none⟩ : Addr) = ⟨b', j, none⟩
  · rw [e]
    exact ⟨b', h1, y, World.cell?_setCell_same _ _ _ h2, by simpa using h3⟩
  · exact ⟨b', h1, z, (World.cell?_setCell_other _ _ _ _ e).trans h2, by simpa using h3⟩
theorem RowI.kept {A : Option Addr} {n : Nat} {S : Nat → Prop} {W W' : World} (h : RowI A n W) (hk : KeptO S W W') (ho : Out S A) : RowI A n W' := by
  intro j hj
  obtain ⟨b, h1, y, h2, h3⟩ := h j hj
  have hlt := World.block_lt_of_cell? _ _ h2
  have hb : W'.heap[b]? = W.heap[b]? := hk.block b hlt (ho _ h1)
  exact ⟨b, h1, y, (World.cell?_of_block (a := ⟨b, j, none⟩) hb).trans h2, (World.frozen?_of_block (a := ⟨b, j, none⟩) hb).trans h3⟩

theorem putOne {m : MI} (h1 : m.u ≠ 0) (h2 : m.f ≤ 31) (h3 : m.b.length ≤ 300) : putM [] m = ([m], 0) := by
  unfold putM
  rw [if_neg (by omega), if_neg (by simp [fdI])]
  rfl
theorem getOne (m : MI) : getM [m] m.u = some m := by simp [getM]
theorem KeptO.ge {S : Nat → Prop} {B : Nat} {w w' : World} (h : KeptO S w w') (hS : ∀ k, S k → B ≤ k) (hB : B ≤ w.heap.size) : Below B w w' := h.below hS hB
set_option maxRecDepth 100000 in
set_option maxHeartbeats 4000000 in
theorem keeps_small (m : MI) (hok : MIok m) (h3 : m.b.length ≤ 300) (h4 : m.u ≠ 0) (h5 : m.f ≤ 31) (w : World) (hby : ByAt w.heap.size w m.A m.k m.b) :
    Calls Try.prog 6 #[msV m] w fun e w' => e = .returned (.bool true) ∧ Below w.heap.size w w' := by
  obtain ⟨i0, hi, hz0, hz1, hz2⟩ := info_parts infoB13
  unfold msV
  have h3i : ¬ (300 : Int) < (m.b.length : Int) := by omega
  have hui : ((m.u : Int) == 0) = false := by simp; omega
  have hfi : ¬ (31 : Int) < (m.f : Int) := by omega
  have HOK := Lib.hid hok
  have HBY := Lib.hid hby
  have HL := Lib.hid h3
  have HU0 := Lib.hid h4
  have HF0 := Lib.hid h5
  have N := Lib.hid (fun W => tnew_any 3 (by omega) W)
  have hal := Lib.hid (below_al w (.cells #[.int .u32 (m.u : Int), .int .u8 (m.f : Int), .slice m.A m.b.length m.k] 33))
  have hM0 := Lib.hid (M3.new (W := w) (m := m) rfl)
  clear hok hby h3 h4 h5
  go_enter Try.func6, Try.ntmps6
  go_wp2_with fail
  refine (N.out _).mono ?_
  rintro e w1 ⟨g, S, rfl, t1, s1, hb1⟩
  have T1 := Lib.hid t1
  have S1 := Lib.hid (show ∀ k, S k → w.heap.size + 1 ≤ k from fun k hk => by have := s1 k hk; rw [World.size_alloc] at this; omega)
  have M1 := Lib.hid (hM0.out.below hb1)
  have B1 := Lib.hid (below_next hal.out hb1)
  have b2 := below_al w1 (.cells #[.int .u32 (m.u : Int), .int .u8 (m.f : Int), .slice m.A m.b.length m.k] 33)
  have X2 := Lib.hid (M3.new (W := w1) (m := m) rfl)
  have M2 := Lib.hid (M1.out.below b2)
  have B2 := Lib.hid (below_next B1.out b2)
  have T2 := Lib.hid (T1.out.kept (KeptO.of_below (S := fun _ => False) b2) fun _ _ => id)
  have HS1 := Lib.hid (show ∀ k, S k → k < w1.heap.size from t1.lt)
  obtain ⟨p0, p1, p2⟩ := M1.out.cells
  clear t1 s1 hb1 b2 hM0 hal N T1
  go_upto_region 7 with (fail)
  clear p0 p1 p2
  generalize w1.alloc _ = w2 at *
  have hpw : w.heap.size < w1.heap.size := M1.out.lt
  clear M1 B1
  generalize w1.heap.size = p at *
  obtain ⟨p0, p1, p2⟩ := M2.out.cells
  have hp2 := X2.out.lt
  have hm2 := M2.out.lt
  have q2 := X2.out.fz 2
  obtain ⟨x0, x1, x2⟩ := X2.out.cells
  have HS := Lib.hid (((HBY.out.below B2.out).here).below (below_al w2 (.cells #[] 5)))
  have HOE := Lib.hid (own_empty (sz := 1) (heap_alloc_new w2 (.cells #[] 5)) (Nat.le_refl _))
  have H63 := Lib.hid (show 0 + m.b.length ≤ maxLen by unfold maxLen; have := HL.out; omega)
  have HBB := Lib.hid (show (0 + m.b.length) * 1 ≤ 140737488355328 by have := HL.out; omega)
  have HB0 := Lib.hid (below_al w2 (.cells #[] 5))
  have HSZ := Lib.hid HB0.out.size
  go_wp2_with (at_builtin; refine wpList_append_sl _ rfl _ _ 31 rfl w2.heap.size 5 i0 _ 1 Try.underlying31 hi hz0 hz1 hz2 rfl (by decide) _ 0 [] rfl HOE.out m.A m.b m.k rfl encB_len HS.out.sl (one_flatB m.b) H63.out HBB.out HSZ.out ?_; intro v3 w3 hown3 hg3; have hb3 := HB0.out.grown hg3 HSZ.out (fun kk hkk => (HOE.out.lt kk hkk).1); rw [Nat.zero_add, List.nil_append] at hown3; obtain ⟨A2, c2, rfl⟩ := own_any hown3; have q3 := (hb3.cell (p := ⟨p, 2, none⟩) hp2).trans x2; have q5 := (hb3.cell (p := ⟨p, 0, none⟩) hp2).trans x0; have q6 := (hb3.cell (p := ⟨p, 1, none⟩) hp2).trans x1; have q4 := (World.frozen?_of_block (a := ⟨p, 2, none⟩) (hb3.block p hp2)).trans q2)
  have KS := KeptO.set w3 p 2 (.slice A2 m.b.length c2)
  have X4 := Lib.hid ((X2.out.below hb3).st2 A2 c2 m.b _ rfl)
  have M4 := Lib.hid ((M2.out.below hb3).kept KS (by omega))
  have T4 := Lib.hid ((T2.out.kept (KeptO.of_below (S := fun _ => False) hb3) fun _ _ => id).kept KS fun k h1 h2 => by have := HS1.out k h1; omega)
  have O4 := Lib.hid (own_keptO hown3 KS fun k e => by omega)
  have B4 := Lib.hid ((B2.out.trans (hb3.mono B2.out.size)).trans (KS.ge (B := w.heap.size) (fun k e => by omega) (Nat.le_trans B2.out.size hb3.size)))
  have hsz4 : w2.heap.size ≤ (w3.setCell ⟨p, 2, none⟩ (.slice A2 m.b.length c2)).heap.size := Nat.le_trans hb3.size KS.size
  clear q2 q3 q4 q5 q6 x0 x1 x2 hown3 hg3 hb3 KS HS HOE H63 HBB HB0 HSZ X2 M2 T2 p0 p1 p2
  generalize w3.setCell _ _ = w4 at *
  have HA4 := Lib.hid (own_block O4.out)
  have PU := Lib.hid (tput_any { m with A := A2, k := c2 } HOK.out.u HOK.out.f (ByAt.of_own O4.out) (.inr (own_out O4.out fun k hk => by have := HS1.out k hk; omega)) T4.out (by simp))
  rw [putOne (m := { m with A := A2, k := c2 }) HU0.out HF0.out HL.out] at PU
  unfold msV at PU
  refine PU.out.mono ?_
  rintro e w5 ⟨S5, rfl, t5, m5, k5⟩
  have T5 := Lib.hid t5
  have HS5 := Lib.hid (show ∀ k, S5 k → k < p ∨ w4.heap.size ≤ k from fun k hk => (m5.2 k hk).imp (HS1.out k) id)
  have HS5w := Lib.hid (show ∀ k, S5 k → w.heap.size + 1 ≤ k from fun k hk => (m5.2 k hk).elim (S1.out k) fun e => by omega)
  have X5 := Lib.hid (X4.out.kept k5 fun e => by have := HS1.out _ e; omega)
  have M5 := Lib.hid (M4.out.kept k5 fun e => by have := S1.out _ e; omega)
  have R5 := Lib.hid ((RowI.of_own O4.out).kept k5 (own_out O4.out fun k hk => by have := HS1.out k hk; omega))
  have OS5 := Lib.hid (show Out S5 A2 from fun a ha e => by
    have h1 := HA4.out a ha
    rcases HS5.out _ e with h2 | h2 <;> omega)
  have B5 := Lib.hid (B4.out.trans (k5.ge (B := w.heap.size) (fun k e => by have := S1.out k e; omega) B4.out.size))
  have HAb := Lib.hid (show ∀ k, blkO A2 k → p < k from fun k ⟨a, ha, hk⟩ => by have := (HA4.out a ha).1; omega)
  have z2 := X5.out.cells.2.2
  clear PU t5 m5 k5 X4 M4 T4 O4 B4 HA4
  go_wp2_with fail
  clear z2
  go_loopw [41] (fun i wr => ∃ k : Nat, k ≤ m.b.length ∧ i = .int .i64 k ∧ Hid (RowI A2 m.b.length wr) ∧ Hid (KeptO (blkO A2) w5 wr)) (fun i _ => m.b.length - (intOf i).toNat)
  case atStart => exact ⟨0, Nat.zero_le _, rfl, R5, Lib.hid (KeptO.refl _ _)⟩
  case round =>
    obtain ⟨k, hk, rfl, HR, HK⟩ := hrel
    have XR := Lib.hid (X5.out.kept HK.out fun e => by have := HAb.out _ e; omega)
    have z2 := XR.out.cells.2.2
    by_cases hlt : k < m.b.length
    · obtain ⟨b, rfl, y, hc, hf⟩ := HR.out k hlt
      have hk0 : (0 : Int) ≤ (k : Int) := by omega
      have hk1 : (k : Int) < (m.b.length : Int) := by omega
      have HR2 := Lib.hid (HR.out.set (b := b) (k := k) (y := (y + 1) % 256))
      have HK2 := Lib.hid (HK.out.trans ((KeptO.set wr b k (.int .u8 ((y + 1) % 256))).mono (S' := blkO (some ⟨b, 0, none⟩)) fun j e => ⟨_, rfl, e⟩) fun _ e => .inl e)
      go_wp2_with fail
      go_roundw
      case rel => exact ⟨k + 1, by omega, by go_num, HR2, HK2⟩
      case measure => simp [intOf]; omega
    · obtain rfl : k = m.b.length := by omega
      have T6 := Lib.hid (T5.out.kept HK.out fun j h1 ⟨a, ha, hj⟩ => OS5.out a ha (hj ▸ h1))
      have M6 := Lib.hid (M5.out.kept HK.out fun e => by have := HAb.out _ e; omega)
      have B6 := Lib.hid (B5.out.trans (HK.out.ge (B := w.heap.size) (fun j e => by have := HAb.out j e; omega) B5.out.size))
      obtain ⟨m0, m1, m2⟩ := M6.out.cells
      have G6 := Lib.hid (tget_any m.u HOK.out.u T6.out (by simp))
      rw [getOne { m with A := A2, k := c2 }] at G6
      simp only [Option.getD_some, Option.isSome_some] at G6
      clear HR HK XR X5 R5 T5 M5 B5 OS5 HAb HS5
      go_wp2_with fail
      refine G6.out.mono ?_
      rintro e w7 ⟨⟨yu, yf, yA, yk, yb⟩, S7, rfl, hsame, hown7, ho7, t7, m7, k7⟩
      obtain ⟨h1, h2, h3⟩ := sameM_iff.1 hsame
      simp only at h1 h2 h3 hown7 ho7
      subst h1 h2 h3
      have b8 := below_al w7 (.cells #[.int .u32 (m.u : Int), .int .u8 (m.f : Int), .slice yA m.b.length yk] 33)
      have X8 := Lib.hid (M3.new (W := w7) (m := ⟨m.u, m.f, yA, yk, m.b⟩) rfl)
      have M8 := Lib.hid ((M6.out.kept k7 fun e => by have := HS5w.out _ e; omega).below b8)
      have hml := M6.out.lt
      have HA7 := own_block hown7
      have hsz7 := k7.size
      have HAb7 := Lib.hid (show ∀ k, blkO yA k → w.heap.size < k ∧ k < w7.heap.size from fun k ⟨a, ha, hk⟩ => by have := HA7 a ha; omega)
      have T8 := Lib.hid ((t7.kept (KeptO.of_below (S := fun _ => False) b8) fun _ _ => id))
      have R8 := Lib.hid ((RowI.of_own hown7).kept (S := fun _ => False) (KeptO.of_below b8) fun _ _ => id)
      have OS7 := Lib.hid ho7
      have HS7w := Lib.hid (show ∀ k, S7 k → w.heap.size + 1 ≤ k from fun k hk => (m7.2 k hk).elim (HS5w.out k) fun e => by omega)
      have B8 := Lib.hid (below_next (B6.out.trans (k7.ge (B := w.heap.size) (fun k e => by have := HS5w.out k e; omega) B6.out.size)) b8)
      have z8 := X8.out.cells.2.2
      clear b8 hsame hown7 ho7 t7 m7 k7 T6 M6 B6 G6 m0 m1 m2 HA7 z2 hml hsz7 HS5w
      unfold msV
      go_wp2_with fail
      clear z8
      generalize w7.alloc _ = w8 at *
      generalize w7.heap.size = p8 at *
      go_loopw [62] (fun i wq => ∃ k : Nat, k ≤ m.b.length ∧ i = .int .i64 k ∧ Hid (RowI yA m.b.length wq) ∧ Hid (KeptO (blkO yA) w8 wq)) (fun i _ => m.b.length - (intOf i).toNat)
      case atStart => exact ⟨0, Nat.zero_le _, rfl, R8, Lib.hid (KeptO.refl _ _)⟩
      case round =>
        obtain ⟨k, hk, rfl, HR, HK⟩ := hrel
        have XR := Lib.hid (X8.out.kept HK.out fun e => by have := HAb7.out _ e; omega)
        have z2 := XR.out.cells.2.2
        by_cases hlt : k < m.b.length
        · obtain ⟨b, rfl, y, hc, hf⟩ := HR.out k hlt
          have hk0 : (0 : Int) ≤ (k : Int) := by omega
          have hk1 : (k : Int) < (m.b.length : Int) := by omega
          have HR2 := Lib.hid (HR.out.set (b := b) (k := k) (y := (y + 1) % 256))
          have HK2 := Lib.hid (HK.out.trans ((KeptO.set _ b k (.int .u8 ((y + 1) % 256))).mono (S' := blkO (some ⟨b, 0, none⟩)) fun j e => ⟨_, rfl, e⟩) fun _ e => .inl e)
          go_wp2_with fail
          go_roundw
          case rel => exact ⟨k + 1, by omega, by go_num, HR2, HK2⟩
          case measure => simp [intOf]; omega
        · obtain rfl : k = m.b.length := by omega
          have T9 := Lib.hid (T8.out.kept HK.out fun j h1 ⟨a, ha, hj⟩ => OS7.out a ha (hj ▸ h1))
          have M9 := Lib.hid (M8.out.kept HK.out fun e => by have := HAb7.out _ e; omega)
          have B9 := Lib.hid (B8.out.trans (HK.out.ge (B := w.heap.size) (fun j e => by have := HAb7.out j e; omega) B8.out.size))
          obtain ⟨m0, m1, m2⟩ := M9.out.cells
          have G9 := Lib.hid (tget_any m.u HOK.out.u T9.out (by simp))
          rw [getOne { m with A := A2, k := c2 }] at G9
          simp only [Option.getD_some, Option.isSome_some] at G9
          clear HR HK XR X8 R8 T8 M8 B8 OS7 HAb7 z2
          go_wp2_with fail
          refine G9.out.mono ?_
          rintro e w10 ⟨⟨zu, zf, zA, zk, zb⟩, S10, rfl, hsame, hown10, ho10, t10, m10, k10⟩
          obtain ⟨h1, h2, h3⟩ := sameM_iff.1 hsame
          simp only at h1 h2 h3 hown10
          subst h1 h2 h3
          have b11 := below_al w10 (.cells #[.int .u32 (m.u : Int), .int .u8 (m.f : Int), .slice zA m.b.length zk] 33)
          have X11 := Lib.hid (M3.new (W := w10) (m := ⟨m.u, m.f, zA, zk, m.b⟩) rfl)
          have M11 := Lib.hid ((M9.out.kept k10 fun e => by have := HS7w.out _ e; omega).below b11)
          have Z11 := Lib.hid ((ByAt.of_own hown10).grow b11)
          have B11 := Lib.hid (below_next (B9.out.trans (k10.ge (B := w.heap.size) (fun k e => by have := HS7w.out k e; omega) B9.out.size)) b11)
          have AL := Lib.hid (fun W => alive13_any W)
          clear b11 hsame hown10 ho10 t10 m10 k10 T9 M9 B9 G9 m0 m1 m2
          unfold msV
          go_wp2_with fail
          generalize w10.alloc _ = w11 at *
          refine (AL.out _).mono ?_
          rintro e w12 ⟨rfl, hb12⟩
          have X12 := X11.out.below hb12
          have M12 := M11.out.below hb12
          have B12 := Lib.hid (below_next B11.out hb12)
          have RS := Lib.hid (rsame13_any ⟨m.u, m.f, zA, zk, m.b⟩ m w12 ((Z11.out.here.grow hb12).here) ((HBY.out.below B12.out).here))
          rw [show sameM ⟨m.u, m.f, zA, zk, m.b⟩ m = true from sameM_iff.2 ⟨rfl, rfl, rfl⟩] at RS
          unfold msV at RS
          obtain ⟨x0, x1, x2⟩ := X12.cells
          obtain ⟨m0, m1, m2⟩ := M12.cells
          clear X11 M11 Z11 B11 AL hb12 X12 M12
          go_wp2_with fail
          refine RS.out.mono ?_
          rintro e w13 ⟨rfl, hb13⟩
          have HF := below_next B12.out hb13
          clear hb13 RS
          go_wp2_with fail
          go_ret
          exact ⟨rfl, HF⟩
set_option maxRecDepth 100000 in
set_option maxHeartbeats 1000000 in
theorem keeps_else (m : MI) (hf : m.f ≤ 255) (h : ¬ (m.b.length ≤ 300 ∧ m.u ≠ 0 ∧ m.f ≤ 31)) (w : World) :
    Calls Try.prog 6 #[msV m] w fun e w' => e = .returned (.bool true) ∧ Below w.heap.size w w' := by
  unfold msV
  have AL := Lib.hid (fun W => alive13_any W)
  have hal := Lib.hid (below_al w (.cells #[.int .u32 (m.u : Int), .int .u8 (m.f : Int), .slice m.A m.b.length m.k] 33))
  by_cases h3 : m.b.length ≤ 300
  · have h3i : ¬ (300 : Int) < (m.b.length : Int) := by omega
    by_cases h0 : m.u = 0
    · have hui : ((m.u : Int) == 0) = true := by simp [h0]
      generalize m.u = u at *
      generalize m.b.length = q at *
      clear h h3 h0
      go_enter Try.func6, Try.ntmps6
      go_wp2_with fail
      refine (AL.out _).mono ?_
      rintro e w1 ⟨rfl, hb1⟩
      have HB := below_next hal.out hb1
      go_wp2_with fail
      go_ret
      exact ⟨rfl, HB⟩
    · have hui : ((m.u : Int) == 0) = false := by simp; omega
      have hfi : (31 : Int) < (m.f : Int) := by omega
      generalize m.u = u at *
      generalize m.b.length = q at *
      generalize m.f = f at *
      clear h h3 h0 hf
      go_enter Try.func6, Try.ntmps6
      go_wp2_with fail
      refine (AL.out _).mono ?_
      rintro e w1 ⟨rfl, hb1⟩
      have HB := below_next hal.out hb1
      go_wp2_with fail
      go_ret
      exact ⟨rfl, HB⟩
  · have h3i : (300 : Int) < (m.b.length : Int) := by omega
    generalize m.b.length = q at *
    clear h h3 hf
    go_enter Try.func6, Try.ntmps6
    go_wp2_with fail
    refine (AL.out _).mono ?_
    rintro e w1 ⟨rfl, hb1⟩
    have HB := below_next hal.out hb1
    go_wp2_with fail
    go_ret
    exact ⟨rfl, HB⟩
theorem stripeKeeps_any (m : MI) (hok : MIok m) (w : World) (hby : ByAt w.heap.size w m.A m.k m.b) :
    Calls Try.prog 6 #[msV m] w fun e w' => e = .returned (.bool true) ∧ Below w.heap.size w w' := by
  by_cases h : m.b.length ≤ 300 ∧ m.u ≠ 0 ∧ m.f ≤ 31
  · exact keeps_small m hok h.1 h.2.1 h.2.2 w hby
  · exact keeps_else m hok.f h w
end Go.Proofs.Ytcfpdflaabfdkaa
