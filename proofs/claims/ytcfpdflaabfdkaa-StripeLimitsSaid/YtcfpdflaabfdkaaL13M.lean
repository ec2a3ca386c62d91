/- The law StripeLimits. By wip/gen/mklim13.py. -/
import Derived.Test.YtcfpdflaabfdkaaL13Z
import Derived.Test.YtcfpdflaabfdkaaL13P
namespace Go.Proofs.Ytcfpdflaabfdkaa
open Go.RowKit

theorem infoB : (Try.prog.info? 5).map (fun i => (i.zero, i.size, i.bytes)) = some (some (.int .u8 0), 1, 1) := by kernel_rfl
theorem mk64 : ∃ row : Array Value, (∀ W : World, (Instr.makeSlice 31 (.int .i64 65536) (.int .i64 65536)).run Try.prog W = .ok (.slice (some ⟨W.heap.size, 0, none⟩) 65536 65536) (W.alloc (.cells row 5))) ∧
    ∃ BL : List UInt8, BL.length = 65536 ∧ ∀ W : World, (W.alloc (.cells row 5)).ownsRow W.heap.size 5 1 (.slice (some ⟨W.heap.size, 0, none⟩) 65536 65536) 65536 (flatL encB BL) := by
  obtain ⟨i0, hi, hz0, hz1, hz2⟩ := info_parts infoB
  refine ⟨madeCells #[.int .u8 0] 65536, fun W => ?_, List.replicate 65536 0, List.length_replicate, fun W => ?_⟩
  · have hr := run_make (P := Try.prog) W 31 5 i0 _ Try.underlying31 hi hz0 .i64 .i64 65536 65536 (by omega) (Int.le_refl _) (by rw [hz2]; omega) (by omega)
    simp only [hz1, Nat.mul_one] at hr
    exact hr
  · have h := World.ownsRow_lit (base := W.heap.size) (e := 5) (size := 1) W (madeCells #[.int .u8 0] 65536) 65536 (Nat.le_refl _) (by unfold maxLen; omega) (by rw [size_madeCells])
    rw [toList_madeCells_one] at h
    rw [flatB, List.map_replicate]
    exact h
theorem own_keptA {w w' : World} {S : Nat → Prop} {base : Nat} {e : TypeId} {size n m c : Nat} {A : Option Addr} {xs : List Value} (h : w.ownsRow base e size (.slice A m c) n xs) (hk : KeptO S w w') (ho : Out S A) : w'.ownsRow base e size (.slice A m c) n xs := by
  refine ⟨h.1, h.2.imp id ?_⟩
  rintro ⟨g, cap, cur, h1, h2, h3, h4⟩
  injection h1 with h1 h1b h1c
  exact ⟨g, cap, cur, by rw [h1, h1b, h1c], h2, hk.heap h3 (ho _ h1), h4⟩
theorem M3.st0 {W : World} {b : Nat} {m : MI} (h : M3 W b m) (y : Nat) : M3 (W.setCell ⟨b, 0, none⟩ (.int .u32 (y : Int))) b { m with u := y } := by
  have h3 := Joins.block_setCell (i := 0) h (.int .u32 (y : Int))
  simp at h3
  exact h3
theorem set5 (A : Option Addr) (k : Nat) (b : List UInt8) : IsSet [5] (wiM [⟨5, 31, A, k, b⟩] 0) := by
  have : wiM [⟨5, 31, A, k, b⟩] 0 = [5] := by simp [wiM]
  rw [this]
  exact ⟨List.pairwise_singleton _ _, fun n => by simp; omega⟩
theorem put5 {A : Option Addr} {k : Nat} (BL : List UInt8) (h : BL.length = 65536) : putM [] ⟨5, 31, A, k, BL⟩ = ([⟨5, 31, A, k, BL⟩], 0) := by
  simp [putM, fdI, h]
theorem put5d {A : Option Addr} {k : Nat} (BL : List UInt8) (h : BL.length = 65536) : putM [⟨5, 31, A, k, BL⟩] ⟨5, 31, A, k, BL⟩ = ([⟨5, 31, A, k, BL⟩], 8) := by
  simp [putM, fdI, h]

set_option maxRecDepth 100000 in
set_option maxHeartbeats 4000000 in
theorem limits_uid (n : Nat) (hn : n ≤ 255) (hr : n % 3 = 0) (w : World) :
    Calls Try.prog 7 #[.int .u8 n] w fun e w' => e = .returned (.bool true) ∧ Below w.heap.size w w' := by
  have N1 := Lib.hid (tnew_any 2 (by omega) w)
  obtain ⟨row, mk, hrow⟩ := mk64
  obtain ⟨BL, hBl, hBo⟩ := hrow
  have hmod : Int.tmod (n : Int) 3 = 0 := by rw [Int.tmod_eq_emod_of_nonneg (by omega)]; omega
  have hnI : (n : Int) < 256 := by omega
  go_enter Try.func7, Try.ntmps7
  go_wp2_with fail
  refine N1.out.mono ?_
  rintro e w1 ⟨g, S, rfl, t1, s1, hb1⟩
  have hO1 := (hBo w1).alloc (.cells #[.int .u32 5, .int .u8 31, .slice (some ⟨w1.heap.size, 0, none⟩) 65536 65536] 33)
  have hal := below_next (below_al w1 (.cells row 5)) (below_al (w1.alloc (.cells row 5)) (.cells #[.int .u32 5, .int .u8 31, .slice (some ⟨w1.heap.size, 0, none⟩) 65536 65536] 33))
  have hM := M3.new (W := w1.alloc (.cells row 5)) (b := (w1.alloc (.cells row 5)).heap.size) (m := ⟨5, 31, some ⟨w1.heap.size, 0, none⟩, 65536, BL⟩) rfl
  simp only [hBl, World.size_alloc] at hM
  have hOut : ∀ (S' : Nat → Prop), (∀ k, S' k → k < w1.heap.size) → Out S' (some ⟨w1.heap.size, 0, none⟩) := fun S' h a ha hs => by
    injection ha with ha
    subst ha
    have := h _ hs
    simp only at this
    omega
  have hlt := t1.lt
  have P1 := Lib.hid (tput_any ⟨5, 31, some ⟨w1.heap.size, 0, none⟩, 65536, BL⟩ (by show 5 ≤ 4294967295; omega) (by show 31 ≤ 255; omega) (ByAt.of_own (by rw [hBl]; exact hO1)) (.inr (hOut S hlt)) (t1.kept (KeptO.of_below (S := fun _ => False) hal) fun _ _ e => e) (by simp))
  rw [put5 BL hBl] at P1
  unfold msV at P1
  simp only [hBl] at P1
  have HB := Lib.hid (below_next hb1 hal)
  have HS := Lib.hid (show ∀ k, S k → w.heap.size ≤ k from s1)
  have hnb : ∀ k, w1.heap.size ≤ k → ¬ S k := fun k hk hs => by have := hlt k hs; omega
  have HO := Lib.hid hO1
  have HU := Lib.hid (fun (S' : Nat → Prop) h => hOut S' h)
  have hN := Lib.hid hnb
  have hMb := Lib.hid hM
  have hpw1 : w.heap.size ≤ w1.heap.size := hb1.size
  have hpw0 : w.heap.size ≤ w1.heap.size + 1 := Nat.le_succ_of_le hb1.size
  have HL := Lib.hid hlt
  clear hO1 hal hM hOut hlt hnb t1 s1 hb1 N1
  go_wp2_with fail
  refine P1.out.mono ?_
  rintro e w3 ⟨S3, rfl, t3, m3, k3⟩
  have hM3 := k3.heap hMb.out (hN.out _ (by omega))
  obtain ⟨b0, b1, b2⟩ := cells3 hM3
  have hS3 := Lib.hid (show ∀ k, S3 k → k < w1.heap.size ∨ w1.heap.size + 2 ≤ k from fun k hk => by
    rcases m3.2 k hk with e | e
    · exact .inl (HL.out k e)
    · simp only [World.size_alloc] at e
      exact .inr e)
  have HB3 := Lib.hid (HB.out.trans (k3.below HS.out HB.out.size))
  have HS3 := Lib.hid (show ∀ k, S3 k → w.heap.size ≤ k from fun k hk => by
    rcases m3.2 k hk with e | e
    · exact HS.out k e
    · exact Nat.le_trans HB.out.size e)
  have O3 := Lib.hid (own_keptA HO.out k3 (HU.out S HL.out))
  have P2 := Lib.hid (tput_any ⟨5, 31, some ⟨w1.heap.size, 0, none⟩, 65536, BL⟩ (by show 5 ≤ 4294967295; omega) (by show 31 ≤ 255; omega) (ByAt.of_own (by rw [hBl]; exact O3.out)) (.inr (fun a ha hs => by
    injection ha with ha
    subst ha
    have := hS3.out _ hs
    simp only at this
    omega)) t3 (by simp))
  rw [put5d BL hBl] at P2
  unfold msV at P2
  simp only [hBl] at P2
  have hM3' := Lib.hid hM3
  clear t3 m3 k3 hM3 P1 hMb hN HO HB HS HL HU
  go_wp2_with fail
  refine P2.out.mono ?_
  rintro e w4 ⟨S4, rfl, t4, m4, k4⟩
  have hM4 := k4.heap hM3'.out (fun h => by have := hS3.out _ h; omega)
  have hS4 := Lib.hid (show ∀ k, S4 k → k ≠ w1.heap.size + 1 from fun k hk => by
    rcases m4.2 k hk with e | e
    · have := hS3.out k e; omega
    · have := (Array.getElem?_eq_some_iff.1 hM3'.out).1; omega)
  have hS4b := Lib.hid (show ∀ k, S4 k → k ≠ w1.heap.size from fun k hk => by
    have hz := (Array.getElem?_eq_some_iff.1 hM3'.out).1
    rcases m4.2 k hk with e | e
    · have := hS3.out k e; omega
    · omega)
  have HB4 := Lib.hid (HB3.out.trans (k4.below HS3.out HB3.out.size))
  have HS4 := Lib.hid (show ∀ k, S4 k → w.heap.size ≤ k from fun k hk => by
    rcases m4.2 k hk with e | e
    · exact HS3.out k e
    · exact Nat.le_trans HB3.out.size e)
  have HT4 := Lib.hid t4
  have fz0 := frozen_of_row _ _ 0 _ _ hM4
  have fz1 := frozen_of_row _ _ 1 _ _ hM4
  have fz2 := frozen_of_row _ _ 2 _ _ hM4
  obtain ⟨b0, b1, b2⟩ := cells3 hM4
  have O4 := Lib.hid (own_keptA O3.out k4 (fun a ha hs => by
    injection ha with ha
    subst ha
    have := hS3.out _ hs
    simp only at this
    omega))
  have HM4 := Lib.hid (show M3 w4 (w1.heap.size + 1) ⟨5, 31, some ⟨w1.heap.size, 0, none⟩, 65536, BL⟩ from hM4)
  clear t4 m4 k4 P2 HB3 HS3 hS3 hM3' hM4
  have AL := Lib.hid (fun W => alive13_any W)
  have hpw : w.heap.size ≤ w1.heap.size + 1 := hpw0
  have hqp : w1.heap.size ≠ w1.heap.size + 1 := by omega
  generalize hpp : w1.heap.size + 1 = p at *
  clear hpp
  have KA := KeptO.set w4 p 0 (.int .u32 6)
  have KB := KeptO.set (w4.setCell ⟨p, 0, none⟩ (.int .u32 6)) p 0 (.int .u32 0)
  have M5 := Lib.hid (((HM4.out.st0 6).st0 0))
  have T5 := Lib.hid ((HT4.out.kept KA fun k h1 h2 => hS4.out k h1 h2).kept KB fun k h1 h2 => hS4.out k h1 h2)
  have B5 := Lib.hid ((HB4.out.trans (KA.below (B := w.heap.size) (fun k e => by omega) HB4.out.size)).trans (KB.below (B := w.heap.size) (fun k e => by omega) (Nat.le_trans HB4.out.size KA.size)))
  have PB0 := Lib.hid (fun w6 => put_bad (g := g) (w := w6) ⟨0, 31, some ⟨w1.heap.size, 0, none⟩, 65536, BL⟩ (by show 31 ≤ 255; omega) (.inl rfl))
  clear KA KB
  go_wp2_with fail
  generalize World.setCell (World.setCell _ _ _) _ _ = w5 at *
  refine (AL.out _).mono ?_
  rintro e w6 ⟨rfl, hb6⟩
  have M6 := M5.out.below hb6
  have T6 := Lib.hid (T5.out.kept (KeptO.of_below (S := fun _ => False) hb6) fun _ _ => id)
  have B6 := Lib.hid (below_next B5.out hb6)
  obtain ⟨c0, c1, c2⟩ := M6.cells
  have PB := Lib.hid (PB0.out w6)
  unfold msV at PB
  simp only [hBl] at PB c2
  clear b0 b1 b2 fz0 fz1 fz2 M5 M6 T5 B5 AL hb6 PB0 O4 hS4b hqp hpw1 O3 HM4 HT4 HB4 hS4
  go_wp2_with fail
  refine PB.out.mono ?_
  rintro e w7 ⟨rfl, hb7⟩
  have T7 := Lib.hid (T6.out.kept (KeptO.of_below (S := fun _ => False) hb7) fun _ _ => id)
  have B7 := Lib.hid (below_next B6.out hb7)
  have W7 := Lib.hid (twith_any 0 (Nat.zero_le _) T7.out (by simp))
  clear PB hb7 T6 B6 c0 c1 c2
  go_wp2_with fail
  refine W7.out.mono ?_
  rintro e w8 ⟨O, v8, S8, rfl, hO, hOl, ho8, t8, m8, k8⟩
  obtain rfl : O = [5] := hO.det (set5 _ _ _)
  obtain ⟨A8, c8, rfl⟩ := own_any ho8
  have B8 := Lib.hid (B7.out.trans (k8.below HS4.out B7.out.size))
  have EQ := Lib.hid (equalU13_any A8 (some ⟨w8.heap.size, 0, none⟩) c8 1 [5] [5] (by simp) (by simp) _ ((SlAt.of_own encU_len ho8).below (below_al w8 (.cells (flatL encU [5]).toArray 29))) (lit_rowU w8 [5] (by simp)))
  rw [decide_eq_true rfl] at EQ
  have A8' := Lib.hid (below_al w8 (.cells (flatL encU [5]).toArray 29))
  clear ho8 t8 m8 k8 hO hOl W7 T7 B7
  go_wp2_with fail
  refine EQ.out.mono ?_
  rintro e w9 ⟨rfl, hb9⟩
  have HB9 := below_next (below_next B8.out A8'.out) hb9
  clear hb9 EQ
  go_wp2_with fail
  go_ret
  exact ⟨rfl, HB9⟩

set_option maxRecDepth 100000 in
set_option maxHeartbeats 4000000 in
theorem limits_flags (n : Nat) (hn : n ≤ 255) (hr : n % 3 = 1) (w : World) :
    Calls Try.prog 7 #[.int .u8 n] w fun e w' => e = .returned (.bool true) ∧ Below w.heap.size w w' := by
  have N1 := Lib.hid (tnew_any 2 (by omega) w)
  obtain ⟨row, mk, hrow⟩ := mk64
  obtain ⟨BL, hBl, hBo⟩ := hrow
  have hmod : Int.tmod (n : Int) 3 = 1 := by rw [Int.tmod_eq_emod_of_nonneg (by omega)]; omega
  have hnI : (n : Int) < 256 := by omega
  go_enter Try.func7, Try.ntmps7
  go_wp2_with fail
  refine N1.out.mono ?_
  rintro e w1 ⟨g, S, rfl, t1, s1, hb1⟩
  have hO1 := (hBo w1).alloc (.cells #[.int .u32 5, .int .u8 31, .slice (some ⟨w1.heap.size, 0, none⟩) 65536 65536] 33)
  have hal := below_next (below_al w1 (.cells row 5)) (below_al (w1.alloc (.cells row 5)) (.cells #[.int .u32 5, .int .u8 31, .slice (some ⟨w1.heap.size, 0, none⟩) 65536 65536] 33))
  have hM := M3.new (W := w1.alloc (.cells row 5)) (b := (w1.alloc (.cells row 5)).heap.size) (m := ⟨5, 31, some ⟨w1.heap.size, 0, none⟩, 65536, BL⟩) rfl
  simp only [hBl, World.size_alloc] at hM
  have hOut : ∀ (S' : Nat → Prop), (∀ k, S' k → k < w1.heap.size) → Out S' (some ⟨w1.heap.size, 0, none⟩) := fun S' h a ha hs => by
    injection ha with ha
    subst ha
    have := h _ hs
    simp only at this
    omega
  have hlt := t1.lt
  have P1 := Lib.hid (tput_any ⟨5, 31, some ⟨w1.heap.size, 0, none⟩, 65536, BL⟩ (by show 5 ≤ 4294967295; omega) (by show 31 ≤ 255; omega) (ByAt.of_own (by rw [hBl]; exact hO1)) (.inr (hOut S hlt)) (t1.kept (KeptO.of_below (S := fun _ => False) hal) fun _ _ e => e) (by simp))
  rw [put5 BL hBl] at P1
  unfold msV at P1
  simp only [hBl] at P1
  have HB := Lib.hid (below_next hb1 hal)
  have HS := Lib.hid (show ∀ k, S k → w.heap.size ≤ k from s1)
  have hnb : ∀ k, w1.heap.size ≤ k → ¬ S k := fun k hk hs => by have := hlt k hs; omega
  have HO := Lib.hid hO1
  have HU := Lib.hid (fun (S' : Nat → Prop) h => hOut S' h)
  have hN := Lib.hid hnb
  have hMb := Lib.hid hM
  have hpw1 : w.heap.size ≤ w1.heap.size := hb1.size
  have hpw0 : w.heap.size ≤ w1.heap.size + 1 := Nat.le_succ_of_le hb1.size
  have HL := Lib.hid hlt
  clear hO1 hal hM hOut hlt hnb t1 s1 hb1 N1
  go_wp2_with fail
  refine P1.out.mono ?_
  rintro e w3 ⟨S3, rfl, t3, m3, k3⟩
  have hM3 := k3.heap hMb.out (hN.out _ (by omega))
  obtain ⟨b0, b1, b2⟩ := cells3 hM3
  have hS3 := Lib.hid (show ∀ k, S3 k → k < w1.heap.size ∨ w1.heap.size + 2 ≤ k from fun k hk => by
    rcases m3.2 k hk with e | e
    · exact .inl (HL.out k e)
    · simp only [World.size_alloc] at e
      exact .inr e)
  have HB3 := Lib.hid (HB.out.trans (k3.below HS.out HB.out.size))
  have HS3 := Lib.hid (show ∀ k, S3 k → w.heap.size ≤ k from fun k hk => by
    rcases m3.2 k hk with e | e
    · exact HS.out k e
    · exact Nat.le_trans HB.out.size e)
  have O3 := Lib.hid (own_keptA HO.out k3 (HU.out S HL.out))
  have P2 := Lib.hid (tput_any ⟨5, 31, some ⟨w1.heap.size, 0, none⟩, 65536, BL⟩ (by show 5 ≤ 4294967295; omega) (by show 31 ≤ 255; omega) (ByAt.of_own (by rw [hBl]; exact O3.out)) (.inr (fun a ha hs => by
    injection ha with ha
    subst ha
    have := hS3.out _ hs
    simp only at this
    omega)) t3 (by simp))
  rw [put5d BL hBl] at P2
  unfold msV at P2
  simp only [hBl] at P2
  have hM3' := Lib.hid hM3
  clear t3 m3 k3 hM3 P1 hMb hN HO HB HS HL HU
  go_wp2_with fail
  refine P2.out.mono ?_
  rintro e w4 ⟨S4, rfl, t4, m4, k4⟩
  have hM4 := k4.heap hM3'.out (fun h => by have := hS3.out _ h; omega)
  have hS4 := Lib.hid (show ∀ k, S4 k → k ≠ w1.heap.size + 1 from fun k hk => by
    rcases m4.2 k hk with e | e
    · have := hS3.out k e; omega
    · have := (Array.getElem?_eq_some_iff.1 hM3'.out).1; omega)
  have hS4b := Lib.hid (show ∀ k, S4 k → k ≠ w1.heap.size from fun k hk => by
    have hz := (Array.getElem?_eq_some_iff.1 hM3'.out).1
    rcases m4.2 k hk with e | e
    · have := hS3.out k e; omega
    · omega)
  have HB4 := Lib.hid (HB3.out.trans (k4.below HS3.out HB3.out.size))
  have HS4 := Lib.hid (show ∀ k, S4 k → w.heap.size ≤ k from fun k hk => by
    rcases m4.2 k hk with e | e
    · exact HS3.out k e
    · exact Nat.le_trans HB3.out.size e)
  have HT4 := Lib.hid t4
  have fz0 := frozen_of_row _ _ 0 _ _ hM4
  have fz1 := frozen_of_row _ _ 1 _ _ hM4
  have fz2 := frozen_of_row _ _ 2 _ _ hM4
  obtain ⟨b0, b1, b2⟩ := cells3 hM4
  have O4 := Lib.hid (own_keptA O3.out k4 (fun a ha hs => by
    injection ha with ha
    subst ha
    have := hS3.out _ hs
    simp only at this
    omega))
  have HM4 := Lib.hid (show M3 w4 (w1.heap.size + 1) ⟨5, 31, some ⟨w1.heap.size, 0, none⟩, 65536, BL⟩ from hM4)
  clear t4 m4 k4 P2 HB3 HS3 hS3 hM3' hM4
  have AL := Lib.hid (fun W => alive13_any W)
  have hpw : w.heap.size ≤ w1.heap.size + 1 := hpw0
  have hqp : w1.heap.size ≠ w1.heap.size + 1 := by omega
  generalize hpp : w1.heap.size + 1 = p at *
  clear hpp
  have KA := KeptO.set w4 p 0 (.int .u32 6)
  have KB := KeptO.set (w4.setCell ⟨p, 0, none⟩ (.int .u32 6)) p 1 (.int .u8 32)
  have M5 := Lib.hid (((HM4.out.st0 6).st1 32))
  have T5 := Lib.hid ((HT4.out.kept KA fun k h1 h2 => hS4.out k h1 h2).kept KB fun k h1 h2 => hS4.out k h1 h2)
  have B5 := Lib.hid ((HB4.out.trans (KA.below (B := w.heap.size) (fun k e => by omega) HB4.out.size)).trans (KB.below (B := w.heap.size) (fun k e => by omega) (Nat.le_trans HB4.out.size KA.size)))
  have PB0 := Lib.hid (fun w6 => put_bad (g := g) (w := w6) ⟨6, 32, some ⟨w1.heap.size, 0, none⟩, 65536, BL⟩ (by show 32 ≤ 255; omega) (.inr (.inl (by show 31 < 32; omega))))
  clear KA KB
  go_wp2_with fail
  generalize World.setCell (World.setCell _ _ _) _ _ = w5 at *
  refine (AL.out _).mono ?_
  rintro e w6 ⟨rfl, hb6⟩
  have M6 := M5.out.below hb6
  have T6 := Lib.hid (T5.out.kept (KeptO.of_below (S := fun _ => False) hb6) fun _ _ => id)
  have B6 := Lib.hid (below_next B5.out hb6)
  obtain ⟨c0, c1, c2⟩ := M6.cells
  have PB := Lib.hid (PB0.out w6)
  unfold msV at PB
  simp only [hBl] at PB c2
  clear b0 b1 b2 fz0 fz1 fz2 M5 M6 T5 B5 AL hb6 PB0 O4 hS4b hqp hpw1 O3 HM4 HT4 HB4 hS4
  go_wp2_with fail
  refine PB.out.mono ?_
  rintro e w7 ⟨rfl, hb7⟩
  have T7 := Lib.hid (T6.out.kept (KeptO.of_below (S := fun _ => False) hb7) fun _ _ => id)
  have B7 := Lib.hid (below_next B6.out hb7)
  have W7 := Lib.hid (twith_any 0 (Nat.zero_le _) T7.out (by simp))
  clear PB hb7 T6 B6 c0 c1 c2
  go_wp2_with fail
  refine W7.out.mono ?_
  rintro e w8 ⟨O, v8, S8, rfl, hO, hOl, ho8, t8, m8, k8⟩
  obtain rfl : O = [5] := hO.det (set5 _ _ _)
  obtain ⟨A8, c8, rfl⟩ := own_any ho8
  have B8 := Lib.hid (B7.out.trans (k8.below HS4.out B7.out.size))
  have EQ := Lib.hid (equalU13_any A8 (some ⟨w8.heap.size, 0, none⟩) c8 1 [5] [5] (by simp) (by simp) _ ((SlAt.of_own encU_len ho8).below (below_al w8 (.cells (flatL encU [5]).toArray 29))) (lit_rowU w8 [5] (by simp)))
  rw [decide_eq_true rfl] at EQ
  have A8' := Lib.hid (below_al w8 (.cells (flatL encU [5]).toArray 29))
  clear ho8 t8 m8 k8 hO hOl W7 T7 B7
  go_wp2_with fail
  refine EQ.out.mono ?_
  rintro e w9 ⟨rfl, hb9⟩
  have HB9 := below_next (below_next B8.out A8'.out) hb9
  clear hb9 EQ
  go_wp2_with fail
  go_ret
  exact ⟨rfl, HB9⟩

set_option maxRecDepth 100000 in
set_option maxHeartbeats 4000000 in
theorem limits_body (n : Nat) (hn : n ≤ 255) (hr : n % 3 = 2) (w : World) :
    Calls Try.prog 7 #[.int .u8 n] w fun e w' => e = .returned (.bool true) ∧ Below w.heap.size w w' := by
  have N1 := Lib.hid (tnew_any 2 (by omega) w)
  obtain ⟨row, mk, hrow⟩ := mk64
  obtain ⟨BL, hBl, hBo⟩ := hrow
  have hmod : Int.tmod (n : Int) 3 = 2 := by rw [Int.tmod_eq_emod_of_nonneg (by omega)]; omega
  have hnI : (n : Int) < 256 := by omega
  go_enter Try.func7, Try.ntmps7
  go_wp2_with fail
  refine N1.out.mono ?_
  rintro e w1 ⟨g, S, rfl, t1, s1, hb1⟩
  have hO1 := (hBo w1).alloc (.cells #[.int .u32 5, .int .u8 31, .slice (some ⟨w1.heap.size, 0, none⟩) 65536 65536] 33)
  have hal := below_next (below_al w1 (.cells row 5)) (below_al (w1.alloc (.cells row 5)) (.cells #[.int .u32 5, .int .u8 31, .slice (some ⟨w1.heap.size, 0, none⟩) 65536 65536] 33))
  have hM := M3.new (W := w1.alloc (.cells row 5)) (b := (w1.alloc (.cells row 5)).heap.size) (m := ⟨5, 31, some ⟨w1.heap.size, 0, none⟩, 65536, BL⟩) rfl
  simp only [hBl, World.size_alloc] at hM
  have hOut : ∀ (S' : Nat → Prop), (∀ k, S' k → k < w1.heap.size) → Out S' (some ⟨w1.heap.size, 0, none⟩) := fun S' h a ha hs => by
    injection ha with ha
    subst ha
    have := h _ hs
    simp only at this
    omega
  have hlt := t1.lt
  have P1 := Lib.hid (tput_any ⟨5, 31, some ⟨w1.heap.size, 0, none⟩, 65536, BL⟩ (by show 5 ≤ 4294967295; omega) (by show 31 ≤ 255; omega) (ByAt.of_own (by rw [hBl]; exact hO1)) (.inr (hOut S hlt)) (t1.kept (KeptO.of_below (S := fun _ => False) hal) fun _ _ e => e) (by simp))
  rw [put5 BL hBl] at P1
  unfold msV at P1
  simp only [hBl] at P1
  have HB := Lib.hid (below_next hb1 hal)
  have HS := Lib.hid (show ∀ k, S k → w.heap.size ≤ k from s1)
  have hnb : ∀ k, w1.heap.size ≤ k → ¬ S k := fun k hk hs => by have := hlt k hs; omega
  have HO := Lib.hid hO1
  have HU := Lib.hid (fun (S' : Nat → Prop) h => hOut S' h)
  have hN := Lib.hid hnb
  have hMb := Lib.hid hM
  have hpw1 : w.heap.size ≤ w1.heap.size := hb1.size
  have hpw0 : w.heap.size ≤ w1.heap.size + 1 := Nat.le_succ_of_le hb1.size
  have HL := Lib.hid hlt
  clear hO1 hal hM hOut hlt hnb t1 s1 hb1 N1
  go_wp2_with fail
  refine P1.out.mono ?_
  rintro e w3 ⟨S3, rfl, t3, m3, k3⟩
  have hM3 := k3.heap hMb.out (hN.out _ (by omega))
  obtain ⟨b0, b1, b2⟩ := cells3 hM3
  have hS3 := Lib.hid (show ∀ k, S3 k → k < w1.heap.size ∨ w1.heap.size + 2 ≤ k from fun k hk => by
    rcases m3.2 k hk with e | e
    · exact .inl (HL.out k e)
    · simp only [World.size_alloc] at e
      exact .inr e)
  have HB3 := Lib.hid (HB.out.trans (k3.below HS.out HB.out.size))
  have HS3 := Lib.hid (show ∀ k, S3 k → w.heap.size ≤ k from fun k hk => by
    rcases m3.2 k hk with e | e
    · exact HS.out k e
    · exact Nat.le_trans HB.out.size e)
  have O3 := Lib.hid (own_keptA HO.out k3 (HU.out S HL.out))
  have P2 := Lib.hid (tput_any ⟨5, 31, some ⟨w1.heap.size, 0, none⟩, 65536, BL⟩ (by show 5 ≤ 4294967295; omega) (by show 31 ≤ 255; omega) (ByAt.of_own (by rw [hBl]; exact O3.out)) (.inr (fun a ha hs => by
    injection ha with ha
    subst ha
    have := hS3.out _ hs
    simp only at this
    omega)) t3 (by simp))
  rw [put5d BL hBl] at P2
  unfold msV at P2
  simp only [hBl] at P2
  have hM3' := Lib.hid hM3
  clear t3 m3 k3 hM3 P1 hMb hN HO HB HS HL HU
  go_wp2_with fail
  refine P2.out.mono ?_
  rintro e w4 ⟨S4, rfl, t4, m4, k4⟩
  have hM4 := k4.heap hM3'.out (fun h => by have := hS3.out _ h; omega)
  have hS4 := Lib.hid (show ∀ k, S4 k → k ≠ w1.heap.size + 1 from fun k hk => by
    rcases m4.2 k hk with e | e
    · have := hS3.out k e; omega
    · have := (Array.getElem?_eq_some_iff.1 hM3'.out).1; omega)
  have hS4b := Lib.hid (show ∀ k, S4 k → k ≠ w1.heap.size from fun k hk => by
    have hz := (Array.getElem?_eq_some_iff.1 hM3'.out).1
    rcases m4.2 k hk with e | e
    · have := hS3.out k e; omega
    · omega)
  have HB4 := Lib.hid (HB3.out.trans (k4.below HS3.out HB3.out.size))
  have HS4 := Lib.hid (show ∀ k, S4 k → w.heap.size ≤ k from fun k hk => by
    rcases m4.2 k hk with e | e
    · exact HS3.out k e
    · exact Nat.le_trans HB3.out.size e)
  have HT4 := Lib.hid t4
  have fz0 := frozen_of_row _ _ 0 _ _ hM4
  have fz1 := frozen_of_row _ _ 1 _ _ hM4
  have fz2 := frozen_of_row _ _ 2 _ _ hM4
  obtain ⟨b0, b1, b2⟩ := cells3 hM4
  have O4 := Lib.hid (own_keptA O3.out k4 (fun a ha hs => by
    injection ha with ha
    subst ha
    have := hS3.out _ hs
    simp only at this
    omega))
  have HM4 := Lib.hid (show M3 w4 (w1.heap.size + 1) ⟨5, 31, some ⟨w1.heap.size, 0, none⟩, 65536, BL⟩ from hM4)
  clear t4 m4 k4 P2 HB3 HS3 hS3 hM3' hM4
  have AL := Lib.hid (fun W => alive13_any W)
  have hpw : w.heap.size ≤ w1.heap.size + 1 := hpw0
  have hqp : w1.heap.size ≠ w1.heap.size + 1 := by omega
  generalize hpp : w1.heap.size + 1 = p at *
  clear hpp
  have KA := KeptO.set w4 p 0 (.int .u32 6)
  have MA := (HM4.out.st0 6)
  have TA := (HT4.out.kept KA fun k h1 h2 => hS4.out k h1 h2)
  have BA := HB4.out.trans (KA.below (B := w.heap.size) (fun k e => by omega) HB4.out.size)
  have OA := own_keptA O4.out KA (fun a ha hs => by
    injection ha with ha
    subst ha
    exact hqp hs)
  have hsA : w1.heap.size < (w4.setCell ⟨p, 0, none⟩ (.int .u32 6)).heap.size := (OA.lt _ rfl).2
  have HR := Lib.hid (OA.alloc (.cells #[.int .u8 0] 5))
  have bc := below_al (w4.setCell ⟨p, 0, none⟩ (.int .u32 6)) (.cells #[.int .u8 0] 5)
  have MC := Lib.hid (MA.below bc)
  have TC := Lib.hid (TA.kept (KeptO.of_below (S := fun _ => False) bc) fun _ _ => id)
  have BC := Lib.hid (below_next BA bc)
  have hx0 := MA.cells.2.2
  simp only [hBl] at hx0
  obtain ⟨i0, hi, hz0, hz1, hz2⟩ := info_parts infoB
  have hszc : (w4.setCell ⟨p, 0, none⟩ (.int .u32 6)).heap.size = w4.heap.size := by simp
  clear KA MA TA BA OA bc
  go_wp2_with (at_builtin; refine wpList_append_own _ rfl _ _ 31 rfl w1.heap.size 5 i0 _ 1 1 Try.underlying31 hi hz0 hz1 hz2 rfl (by decide) _ _ _ rfl HR.out ⟨w4.heap.size, 0, none⟩ 1 1 [.int .u8 0] rfl rfl (cells_one (by simp) _ _) (by intro u hu; simp at hu; subst hu; rfl) (by unfold maxLen; omega) (by omega) (by simp; omega) ?_; intro v' wz hown' hgrow _; obtain ⟨A3, c3, rfl⟩ := own_any hown'; have hg2 : ((w4.setCell ⟨p, 0, none⟩ (.int .u32 6)).alloc (.cells #[.int .u8 0] 5)).grownBy wz (some w1.heap.size) := hgrow; have MZ := MC.out.grown hg2 (fun e => hqp (Option.some.inj e).symm); have z0 := MZ.cells.2.2; have z1 := MZ.fz 2)
  have KZ := KeptO.set wz p 2 (.slice A3 (65536 + 1) c3)
  have M5 := Lib.hid (MZ.st2 A3 c3 (List.replicate 65537 0) 65537 List.length_replicate)
  have T5 := Lib.hid ((TC.out.kept (KeptO.of_grown (S := fun k => k = w1.heap.size) hg2 fun r hr => by cases hr; rfl) fun k h1 h2 => hS4b.out k h1 h2).kept KZ fun k h1 h2 => hS4.out k h1 h2)
  have bz := BC.out.grown hg2 BC.out.size (fun k hk => by cases hk; exact hpw1)
  have B5 := Lib.hid (bz.trans (KZ.below (B := w.heap.size) (fun k e => by omega) bz.size))
  have PB0 := Lib.hid (fun w6 => put_bad (g := g) (w := w6) ⟨6, 31, A3, c3, List.replicate 65537 0⟩ (by show 31 ≤ 255; omega) (.inr (.inr (by show 65536 < (List.replicate 65537 (0 : UInt8)).length; rw [List.length_replicate]; omega))))
  clear KZ bz BC TC MC HR hown' hgrow hg2 MZ z0 z1 hx0 hsA hszc hi hz0 hz1 hz2
  generalize World.setCell _ _ _ = w5 at *
  refine (AL.out _).mono ?_
  rintro e w6 ⟨rfl, hb6⟩
  have M6 := M5.out.below hb6
  have T6 := Lib.hid (T5.out.kept (KeptO.of_below (S := fun _ => False) hb6) fun _ _ => id)
  have B6 := Lib.hid (below_next B5.out hb6)
  obtain ⟨c0, c1, c2⟩ := M6.cells
  have PB := Lib.hid (PB0.out w6)
  unfold msV at PB
  simp only [List.length_replicate] at PB c2
  clear b0 b1 b2 fz0 fz1 fz2 M5 M6 T5 B5 AL hb6 PB0 O4 hS4b hqp hpw1 O3 HM4 HT4 HB4 hS4
  go_wp2_with fail
  refine PB.out.mono ?_
  rintro e w7 ⟨rfl, hb7⟩
  have T7 := Lib.hid (T6.out.kept (KeptO.of_below (S := fun _ => False) hb7) fun _ _ => id)
  have B7 := Lib.hid (below_next B6.out hb7)
  have W7 := Lib.hid (twith_any 0 (Nat.zero_le _) T7.out (by simp))
  clear PB hb7 T6 B6 c0 c1 c2
  go_wp2_with fail
  refine W7.out.mono ?_
  rintro e w8 ⟨O, v8, S8, rfl, hO, hOl, ho8, t8, m8, k8⟩
  obtain rfl : O = [5] := hO.det (set5 _ _ _)
  obtain ⟨A8, c8, rfl⟩ := own_any ho8
  have B8 := Lib.hid (B7.out.trans (k8.below HS4.out B7.out.size))
  have EQ := Lib.hid (equalU13_any A8 (some ⟨w8.heap.size, 0, none⟩) c8 1 [5] [5] (by simp) (by simp) _ ((SlAt.of_own encU_len ho8).below (below_al w8 (.cells (flatL encU [5]).toArray 29))) (lit_rowU w8 [5] (by simp)))
  rw [decide_eq_true rfl] at EQ
  have A8' := Lib.hid (below_al w8 (.cells (flatL encU [5]).toArray 29))
  clear ho8 t8 m8 k8 hO hOl W7 T7 B7
  go_wp2_with fail
  refine EQ.out.mono ?_
  rintro e w9 ⟨rfl, hb9⟩
  have HB9 := below_next (below_next B8.out A8'.out) hb9
  clear hb9 EQ
  go_wp2_with fail
  go_ret
  exact ⟨rfl, HB9⟩
theorem stripeLimits_any (n : Nat) (hn : n ≤ 255) (w : World) :
    Calls Try.prog 7 #[.int .u8 n] w fun e w' => e = .returned (.bool true) ∧ Below w.heap.size w w' := by
  have h : n % 3 = 0 ∨ n % 3 = 1 ∨ n % 3 = 2 := by omega
  rcases h with h | h | h
  · exact limits_uid n hn h w
  · exact limits_flags n hn h w
  · exact limits_body n hn h w
end Go.Proofs.Ytcfpdflaabfdkaa
