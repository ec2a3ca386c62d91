/- The law LockOrder. -/
import Derived.Test.YtpfplniokjkcbaaL14B
namespace Go.Proofs.Ytpfplniokjkcbaa
open Go.RowKit

/-- The greatest lock that is held among the first k, or -1. -/
def topL (L : List Int) : Nat → Int
  | 0 => -1
  | k + 1 => if 0 ≤ ownL L (k : Int) then (k : Int) else topL L k
theorem topL_lt (L : List Int) : ∀ k, -1 ≤ topL L k ∧ topL L k < (k : Int)
  | 0 => ⟨by simp [topL], by simp [topL]⟩
  | k + 1 => by
    obtain ⟨h1, h2⟩ := topL_lt L k
    unfold topL
    split <;> omega
theorem topL_held (L : List Int) : ∀ k, topL L k < 0 ∨ 0 ≤ ownL L (topL L k)
  | 0 => .inl (by simp [topL])
  | k + 1 => by
    unfold topL
    split
    · next h => exact .inr h
    · exact topL_held L k
theorem topL_free (L : List Int) : ∀ (k : Nat) (j : Int), topL L k < j → j < (k : Int) → ownL L j < 0
  | 0, j, h1, h2 => by simp [topL] at h1; omega
  | k + 1, j, h1, h2 => by
    unfold topL at h1
    split at h1
    · omega
    · next h =>
      by_cases e : j = (k : Int)
      · subst e; omega
      · exact topL_free L k j h1 (by omega)
/-- What an owner may be. -/
def Own14 (L : List Int) : Prop := ∀ x ∈ L, -9223372036854775808 ≤ x ∧ x ≤ 9223372036854775807
theorem Own14.acq {L : List Int} (h : Own14 L) (o k : Int) (ho : -9223372036854775808 ≤ o ∧ o ≤ 9223372036854775807) : Own14 (acqL L o k).1 := by
  unfold acqL
  split
  · exact h
  · split
    · exact h
    · split
      · exact h
      · split
        · exact h
        · intro x hx
          rcases List.mem_or_eq_of_mem_set hx with e | e
          · exact h x e
          · subst e; exact ho
theorem order_acq {L : List Int} {t : Nat} (ht : t < L.length) (h0 : 0 ≤ L[t]) (hT : topL L L.length = (t : Int)) {j : Int} (h1 : (t : Int) < j) (h2 : j < (L.length : Int)) : (acqL L L[t] j).2 = 0 := by
  have hf : ownL L j < 0 := topL_free L L.length j (by rw [hT]; exact h1) h2
  unfold acqL
  rw [if_neg (by omega), if_neg (by omega), if_neg, if_neg (by omega)]
  rintro ⟨i, hi, hk⟩
  obtain ⟨_, h4, h5⟩ := mem_heldL.1 hi
  have := topL_free L L.length (i : Int) (by rw [hT]; omega) (by omega)
  rw [ownL_at h4, h5] at this
  omega
theorem order_blk {L : List Int} {o j : Int} (h : ownL L j < 0) (ho : 0 ≤ o) : blkL L o [j] = false := by
  unfold blkL
  rw [if_pos (by omega)]
  simpa using h
/-- The reference's table alone. -/
structure LQ (B bw : Nat) (A : Option Addr) (c : Nat) (L : List Int) (q : Nat) (w0 W : World) : Prop where
  rf : RefT B bw A c L q W
  be : Below B w0 W
  sz : B ≤ W.heap.size
section
variable {B g bw c q : Nat} {A : Option Addr} {L : List Int} {w0 W W' : World}
theorem LP.lq (h : LP B g bw A c L q w0 W) : LQ B bw A c L q w0 W := ⟨h.rf, h.be, h.sz⟩
theorem LQ.below (h : LQ B bw A c L q w0 W) (hb : Below W.heap.size W W') : LQ B bw A c L q w0 W' := ⟨h.rf.below hb, h.be.trans (hb.mono h.sz), Nat.le_trans h.sz hb.size⟩
theorem LQ.draw (h : LQ B bw A c L q w0 W) : LQ B bw A c L q w0 W.drew := h.below (below_drew 1)
theorem LQ.drawN (h : LQ B bw A c L q w0 W) (n : Nat) : LQ B bw A c L q w0 (W.drewN n) := h.below (below_drew n)
theorem LQ.keep {b t : Nat} {y : Int} (hA : A = some ⟨b, 0, none⟩) (ht : t < L.length) (hy : L[t] = y) (h : LQ B bw A c L q w0 W) : W.cell? ⟨bw, 0, none⟩ = some (.slice (some ⟨b, 0, none⟩) L.length c) ∧ W.cell? ⟨b, t, none⟩ = some (.int .i64 y) ∧ LQ B bw A c L q w0 W := by
  obtain ⟨b', e, -, h2, -⟩ := h.rf.at_ ht
  rw [hA] at e
  injection e with e
  injection e with e
  subst e
  exact ⟨by rw [← hA]; exact h.rf.cells.1, by rw [← hy]; exact h2, h⟩
theorem LP.acq (h : LP B g bw A c L q w0 W) (o k : Int) (ho : -9223372036854775808 ≤ o ∧ o ≤ 9223372036854775807) (hk : -9223372036854775808 ≤ k ∧ k ≤ 9223372036854775807) (hq : q ≤ 1000000) :
    Calls Try.prog 15 #[.pointer (some ⟨g, 0, none⟩), .int .i64 o, .int .i64 k] W fun e w' => e = .returned (.int .i64 (acqL L o k).2) ∧ LQ B bw A c L q w0 w' := by
  obtain ⟨S, h1, h2, h3, h4⟩ := h.tb
  refine (lkacq_any o k ho hk hq h1).mono ?_
  rintro e w' ⟨S', rfl, t, m, kk⟩
  exact ⟨rfl, h.rf.keptO kk h3 h4, h.be.trans (kk.below h2 h.sz), Nat.le_trans h.sz kk.size⟩
end
set_option maxRecDepth 100000 in
set_option maxHeartbeats 4000000 in
theorem order_main (l : List Op14) (A1 : Option Addr) (c1 : Nat) (hl : l.length ≤ 100) (hok : ∀ x ∈ l, opOk x) (kn : Nat) (hkn : kn ≤ 255) (w : World) (hS : SlAt encO14 2 w A1 l) :
    Calls Try.prog 5 #[.slice A1 l.length c1, .int .u8 kn] w fun e w' => e = .returned (.bool true) ∧ Below w.heap.size w w' := by
  have h1 : ¬ (100 : Int) < (l.length : Int) := by omega
  have HOK := Lib.hid hok
  have HS := Lib.hid hS
  have N := Lib.hid (lknew_any 9 (by omega) w)
  have RN := Lib.hid (fun W => rnew14_any 9 (by omega) W)
  clear hok hS
  unfold tbV at RN
  go_enter Try.func5, Try.ntmps5
  go_wp2_with fail
  refine N.out.mono ?_
  rintro e w1 ⟨g, S, rfl, t1, s1, hb1⟩
  have T1 := Lib.hid t1
  have S1 := Lib.hid s1
  have B1 := Lib.hid hb1
  clear t1 s1 hb1 N
  go_wp2_with fail
  refine (RN.out _).mono ?_
  rintro e w2 ⟨A, c, rfl, hr, hb2⟩
  have P0 := Lib.hid (LP.start (B := w.heap.size) (w0 := w) rfl T1.out S1.out B1.out hr hb2)
  clear hr hb2 RN T1 S1 B1
  generalize hL0 : List.replicate 9 (-1 : Int) = L0 at *
  have HL0 := Lib.hid (show L0.length = 9 by rw [← hL0]; rfl)
  have HO0 := Lib.hid (show Own14 L0 by rw [← hL0]; intro x hx; obtain rfl := (List.mem_replicate.1 hx).2; omega)
  clear hL0
  go_wp2_with fail
  generalize w2.alloc _ = w3 at *
  generalize w2.heap.size = bw at *
  go_loopw [23] (fun i wr => ∃ (k : Nat) (L : List Int) (q : Nat), k ≤ l.length ∧ i = .int .i64 k ∧ Hid (LP w.heap.size g bw A c L q w wr) ∧ Hid (L.length = 9) ∧ Hid (q ≤ k) ∧ Hid (Own14 L)) (fun i _ => l.length - (intOf i).toNat)
  case atStart => exact ⟨0, L0, 0, Nat.zero_le _, rfl, P0, HL0, Lib.hid (Nat.le_refl _), HO0⟩
  case round =>
    obtain ⟨k, L, q, hk, rfl, HP, HL, HQ, HB⟩ := hrel
    clear P0 HL0 HO0
    by_cases hlt : k < l.length
    · obtain ⟨b, off, rfl, hb, x0, x1⟩ := (HS.out.below HP.out.be).op14 hlt
      have hk0 : (0 : Int) ≤ (k : Int) := by omega
      have hk1 : (k : Int) < (l.length : Int) := by omega
      have HOP := Lib.hid (HOK.out l[k] (List.getElem_mem hlt))
      have P1 := Lib.hid (HP.out.op l[k].o l[k].k)
      obtain ⟨y0, y1⟩ := P1.out.cells
      have C1 := Lib.hid (P1.out.acqP HOP.out.1 HOP.out.2 (by have := HQ.out; omega))
      have HBn := Lib.hid (HB.out.acq l[k].o l[k].k HOP.out.1)
      clear HP HB
      generalize l[k].o = oo at *
      generalize l[k].k = kk at *
      go_wp2_with fail
      refine C1.out.mono ?_
      rintro e w5 ⟨rfl, t5⟩
      have P5 := Lib.hid t5
      obtain ⟨z0, z1⟩ := t5.cells
      have C2 := Lib.hid (t5.acqR (by have := HL.out; omega) (by have := HQ.out; omega))
      clear t5 C1 P1 y0 y1
      go_wp2_with fail
      refine C2.out.mono ?_
      rintro e w6 ⟨rfl, t6⟩
      have P6 := Lib.hid t6.drop
      have HL6 := Lib.hid ((acqL_len L oo kk).trans HL.out)
      have HQ6 := Lib.hid (two_cnt (c := (acqL L oo kk).2) HQ.out rfl)
      clear t6 C2 P5 z0 z1
      go_wp2_with fail
      go_roundw
      case rel => exact ⟨k + 1, _, _, by omega, by go_num, P6, HL6, HQ6, HBn⟩
      case measure => simp [intOf]; omega
    · obtain rfl : k = l.length := by omega
      obtain ⟨d0, d1⟩ := HP.out.rf.cells
      have hL9 := HL.out
      have HQ1 := Lib.hid (show q ≤ 1000000 by have := HQ.out; omega)
      obtain ⟨b, hA, -, -, -⟩ := HP.out.rf.at_ (j := 0) (by omega)
      subst hA
      have hLm : L.length ≤ 1000 := by omega
      clear HQ HS HOK h1 hL9
      go_wp2_with fail
      go_loopw [9, 42] (fun v i wq => ∃ k : Nat, k ≤ L.length ∧ i = .int .i64 k ∧ v = .int .i64 (topL L k) ∧ wq = wr) (fun _ i _ => L.length - (intOf i).toNat)
      case atStart => exact ⟨0, Nat.zero_le _, rfl, rfl, rfl⟩
      case round =>
        obtain ⟨k, hk, rfl, rfl, rfl⟩ := hrel
        by_cases hlt : k < L.length
        · obtain ⟨b', e, -, hy, -⟩ := HP.out.rf.at_ hlt
          injection e with e
          injection e with e
          subst e
          have hk0 : (0 : Int) ≤ (k : Int) := by omega
          have hk1 : (k : Int) < (L.length : Int) := by omega
          have ht := ownL_at hlt
          by_cases h0 : 0 ≤ L[k]
          · have e : topL L (k + 1) = (k : Int) := by rw [topL, ht, if_pos h0]
            have E := Lib.hid e
            clear e ht
            generalize L[k] = y at *
            generalize topL L k = tk at *
            go_wp2_with fail
            go_roundw
            case rel => exact ⟨k + 1, by omega, by go_num, by rw [E.out], trivial⟩
            case measure => simp [intOf]; omega
          · have e : topL L (k + 1) = topL L k := by rw [topL, ht, if_neg h0]
            have E := Lib.hid e
            clear e ht
            generalize L[k] = y at *
            generalize topL L k = tk at *
            go_wp2_with fail
            go_roundw
            case rel => exact ⟨k + 1, by omega, by go_num, by rw [E.out], trivial⟩
            case measure => simp [intOf]; omega
        · obtain rfl : k = L.length := by omega
          have hL9 := HL.out
          have hT1 := topL_lt L L.length
          have hT2 := topL_held L L.length
          have TF := Lib.hid (fun j => topL_free L L.length j)
          have TA := Lib.hid (show ∀ (t : Nat) (h1 : t < L.length), 0 ≤ L[t] → topL L L.length = (t : Int) → ∀ j : Int, (t : Int) < j → j < (L.length : Int) → (acqL L L[t] j).2 = 0 from fun t h1 h2 h3 j h4 h5 => order_acq h1 h2 h3 h4 h5)
          generalize topL L L.length = tt at *
          by_cases h0 : tt < 0 ∨ tt = 8
          · have AL := Lib.hid HP.out.ali
            clear TA TF
            rcases h0 with h0 | h0
            · obtain rfl : tt = -1 := by omega
              clear hT1 hT2
              go_wp2_with fail
              refine AL.out.mono ?_
              rintro e w7 ⟨rfl, h7⟩
              go_wp2_with fail
              go_ret
              exact ⟨rfl, h7.be⟩
            · subst h0
              clear hT1 hT2
              go_wp2_with fail
              refine AL.out.mono ?_
              rintro e w7 ⟨rfl, h7⟩
              go_wp2_with fail
              go_ret
              exact ⟨rfl, h7.be⟩
          · obtain ⟨t, rfl⟩ : ∃ t : Nat, tt = (t : Int) := ⟨tt.toNat, by omega⟩
            have ht : t < L.length := by omega
            have hy0 : 0 ≤ L[t] := by have := ownL_at ht; omega
            obtain ⟨d, hd⟩ : ∃ d : Nat, d = 8 - t := ⟨_, rfl⟩
            obtain ⟨r, hr⟩ : ∃ r : Nat, r = kn % d := ⟨_, rfl⟩
            obtain ⟨j, hj⟩ : ∃ j : Nat, j = t + 1 + r := ⟨_, rfl⟩
            have hm : r < d := by rw [hr]; exact Nat.mod_lt kn (by omega)
            have hrz : ((kn % d : Nat) : Int) = (r : Int) := by rw [hr]
            have hw1 : IntKind.i64.wrap ((t : Int) + 1) = (t : Int) + 1 := IntWalk.i64_in _ (by omega)
            have hw2 : IntKind.i64.wrap (8 - (t : Int)) = (d : Int) := by rw [show (8 : Int) - (t : Int) = (d : Int) by omega]; exact IntWalk.i64_in _ (by omega)
            have hdz : ¬ ((d : Int) = 0) := by omega
            have hdz2 : ¬ (d = 0) := by omega
            have hw3 : Int.tmod (kn : Int) (d : Int) = (r : Int) := by rw [Int.tmod_eq_emod_of_nonneg (by omega), ← hrz, Int.natCast_emod]
            have hw4 : (kn : Int) % (d : Int) = (r : Int) := by rw [← hrz, Int.natCast_emod]
            have hw5 : IntKind.i64.wrap ((t : Int) + 1 + (r : Int)) = (j : Int) := by rw [show (t : Int) + 1 + (r : Int) = (j : Int) by omega]; exact IntWalk.i64_in _ (by omega)
            have hw7 : IntKind.i64.wrap (j : Int) = (j : Int) := IntWalk.i64_in _ (by omega)
            have hw6 : (t : Int) + 1 + (r : Int) = (j : Int) := by omega
            have C1 := Lib.hid (TA.out t ht hy0 rfl j (by omega) (by omega))
            have C2 := Lib.hid (TF.out j (by omega) (by omega))
            have hb := HB.out _ (List.getElem_mem ht)
            have hyy : L[t] = L[t] := rfl
            have AL := Lib.hid (fun W (h : LP w.heap.size g bw (some ⟨b, 0, none⟩) c L q w W) => h.ali)
            have BL := Lib.hid (fun W (h : LP w.heap.size g bw (some ⟨b, 0, none⟩) c L q w W) A2 c2 hS => h.blk L[t] hb A2 c2 [(j : Int)] (by simp) (by intro x hx; obtain rfl := List.mem_singleton.1 hx; omega) hS)
            have AQ := Lib.hid (fun W (h : LP w.heap.size g bw (some ⟨b, 0, none⟩) c L q w W) => h.acq L[t] (j : Int) hb (by omega) HQ1.out)
            rw [order_blk C2.out hy0] at BL
            rw [C1.out] at AQ
            have KP := Lib.hid (fun W (h : LQ w.heap.size bw (some ⟨b, 0, none⟩) c L q w W) => LQ.keep (b := b) (t := t) rfl ht rfl h)
            have hP := HP.out
            have ht0 : (0 : Int) ≤ (t : Int) := by omega
            have ht1 : (t : Int) < (L.length : Int) := by omega
            have ht2 : ¬ ((t : Int) < 0) := by omega
            have ht3 : ¬ ((t : Int) = 8) := by omega
            have hS0 := (KP.out _ hP.lq)
            clear TA TF C1 C2 HB hb hyy hT1 hT2 h0 HL hL9 hd hr hj hm
            generalize L[t] = y at *
            clear hS0 HP hLm
            have C1 := Lib.hid (AL.out _ hP)
            clear AL hP
            go_wp2_with fail
            refine C1.out.mono ?_
            rintro e w5 ⟨rfl, h5⟩
            obtain ⟨k0, k1, -⟩ := KP.out _ h5.lq
            have C2 := Lib.hid (BL.out _ (h5.alloc (.cells #[.int .i64 (j : Int)] 3)) _ 1 (slAt_one _ _))
            clear h5 C1 BL
            go_wp2_with fail
            refine C2.out.mono ?_
            rintro e w6 ⟨rfl, h6⟩
            obtain ⟨k2, k3, -⟩ := KP.out _ h6.lq
            have C3 := Lib.hid (AQ.out _ h6)
            clear h6 C2 AQ k0 k1
            go_wp2_with fail
            refine C3.out.mono ?_
            rintro e w7 ⟨rfl, h7⟩
            have HF := Lib.hid h7.be
            clear h7 C3 k2 k3 KP
            go_wp2_with fail
            go_ret
            exact ⟨rfl, HF.out⟩
theorem lockOrder_any (A1 : Option Addr) (c1 : Nat) (l : List Op14) (kn : Nat) (hkn : kn ≤ 255) (hlm : l.length ≤ maxLen) (hok : ∀ x ∈ l, opOk x) (w : World) (hS : SlAt encO14 2 w A1 l) :
    Calls Try.prog 5 #[.slice A1 l.length c1, .int .u8 kn] w fun e w' => e = .returned (.bool true) ∧ Below w.heap.size w w' := by
  unfold maxLen at hlm
  have AL := Lib.hid (fun W => alive14_any W)
  by_cases h1 : l.length ≤ 100
  · exact order_main l A1 c1 h1 hok kn hkn w hS
  · have h1i : (100 : Int) < (l.length : Int) := by omega
    clear h1 hS hok
    generalize l.length = n1 at *
    go_enter Try.func5, Try.ntmps5
    go_wp2_with fail
    refine (AL.out _).mono ?_
    rintro e w1 ⟨rfl, hb⟩
    go_wp2_with fail
    go_ret
    exact ⟨rfl, hb⟩
theorem lockOrder_law (A1 : Option Addr) (c1 : Nat) (l : List Op14) (hlm : l.length ≤ maxLen) (hok : ∀ x ∈ l, opOk x) (kn : Nat) (hkn : kn ≤ 255) (w : World) (hS : SlAt encO14 2 w A1 l) :
    Calls Try.prog 5 #[.slice A1 l.length c1, .int .u8 kn] w fun e w' => e = .returned (.bool true) ∧ Below w.heap.size w w' := lockOrder_any A1 c1 l kn hkn hlm hok w hS
end Go.Proofs.Ytpfplniokjkcbaa
