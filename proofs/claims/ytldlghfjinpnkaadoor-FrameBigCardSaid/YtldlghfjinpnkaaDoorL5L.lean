/- The law FrameLong, its walk. -/
import Derived.Test.YtldlghfjinpnkaaDoorLongM
import Derived.Test.YtldlghfjinpnkaaDoorShelfR
namespace Go.Proofs.YtldlghfjinpnkaaDoor
open Go.RowKit

theorem EnvB.step' {w w' : World} (h : EnvB w.heap.size w) (hb : Below w.heap.size w w') : EnvB w'.heap.size w' := (h.below hb).up hb.size
theorem repeat_any (x : UInt8) (n : Nat) (hn : n ≤ 100000) (w : World) :
    Calls Tryd.prog 17 #[.string ⟨#[x]⟩, .int .i64 (n : Int)] w fun e w' => e = .returned (.string ⟨(List.replicate n x).toArray⟩) ∧ Below w.heap.size w w' := by
  have h := Any.strings_Repeat Tryd.lays105 Tryd.Builder_Extra_105 ⟨#[x]⟩ n w (by omega) (by show 1 * n ≤ _; omega)
  have e : Lib.repeatL [x] n = List.replicate n x := by
    have := Lib.repeatL_replicate x 1 n
    simpa using this
  rw [show (ByteArray.mk #[x]).data.toList = [x] from rfl, e] at h
  exact h
theorem byAt_x (w : World) (x : UInt8) (t : TypeId) : ByAt (w.heap.size + 1) (w.alloc (.cells #[.int .u8 (x.toNat : Int)] t)) (some ⟨w.heap.size, 0, none⟩) 1 [x] := by
  have := byAt_litF w [x] _ rfl t (0, 0)
  exact this

/-- One frame, two frames, their cells written out. -/
theorem one5 {w : World} {base : Nat} {T : TypeId} {v : Value} {vs : List (Int × Value)} {f0 : Fr} (ho : w.ownsRow base T 2 v 1 (flatL enc2 vs)) (hf : FrsAt (fun _ => True) w vs [f0]) :
    ∃ g c A0 c0, v = .slice (some ⟨g, 0, none⟩) 1 c ∧ w.cell? ⟨g, 0, none⟩ = some (.int .i64 (f0.kind : Int)) ∧ w.cell? ⟨g, 1, none⟩ = some (.slice A0 f0.data.length c0) ∧ ByAt w.heap.size w A0 c0 f0.data := by
  obtain ⟨g, c, rfl, _, _⟩ := ho.form (by omega)
  cases hf with
  | cons d0 r0 =>
  cases r0
  obtain ⟨A0, c0, _, rfl, b0, _⟩ := d0
  have hc := fun j (hj : j < 1 * 2) => ho.cellAt j hj
  exact ⟨g, c, A0, c0, rfl, hc 0 (by omega), hc 1 (by omega), b0.by⟩
theorem two5 {w : World} {base : Nat} {T : TypeId} {v : Value} {vs : List (Int × Value)} {f0 f1 : Fr} (ho : w.ownsRow base T 2 v 2 (flatL enc2 vs)) (hf : FrsAt (fun _ => True) w vs [f0, f1]) :
    ∃ g c A0 c0 A1 c1, v = .slice (some ⟨g, 0, none⟩) 2 c ∧ w.cell? ⟨g, 0, none⟩ = some (.int .i64 (f0.kind : Int)) ∧ w.cell? ⟨g, 1, none⟩ = some (.slice A0 f0.data.length c0) ∧ w.cell? ⟨g, 2, none⟩ = some (.int .i64 (f1.kind : Int)) ∧ w.cell? ⟨g, 3, none⟩ = some (.slice A1 f1.data.length c1) ∧ ByAt w.heap.size w A0 c0 f0.data ∧ ByAt w.heap.size w A1 c1 f1.data := by
  obtain ⟨g, c, rfl, _, _⟩ := ho.form (by omega)
  cases hf with
  | cons d0 r0 =>
  cases r0 with
  | cons d1 r1 =>
  cases r1
  obtain ⟨A0, c0, _, rfl, b0, _⟩ := d0
  obtain ⟨A1, c1, _, rfl, b1, _⟩ := d1
  have hc := fun j (hj : j < 2 * 2) => ho.cellAt j hj
  exact ⟨g, c, A0, c0, A1, c1, rfl, hc 0 (by omega), hc 1 (by omega), hc 2 (by omega), hc 3 (by omega), b0.by, b1.by⟩
theorem cutS (X : World) (x : UInt8) (n q : Nat) (hq : q = 8192) (hn : q ≤ n) : (Instr.slice 9 (.string ⟨Array.replicate n x⟩) none (some (.int .i64 8192)) none).run Tryd.prog X = .ok (.string ⟨Array.replicate q x⟩) X := by
  have h := run_slice_string_to_if (P := Tryd.prog) (w := X) 9 ⟨Array.replicate n x⟩ .i64 8192 Tryd.underlying9
  have hs : (ByteArray.mk (Array.replicate n x)).size = n := by simp [ByteArray.size]
  rw [if_pos ⟨by omega, by rw [hs]; omega⟩] at h
  rw [h]
  have he : (ByteArray.mk (Array.replicate n x)).extract 0 q = ⟨Array.replicate q x⟩ := by
    apply ByteArray.ext
    rw [ByteArray.data_extract]
    apply Array.ext'
    simp [Nat.min_eq_left hn]
  rw [← he, hq]
  rfl
/-- The world that a drawn region with 'alive' meets. -/
theorem keepL {w X : World} {b n : Nat} {u : Value} {A : Option Addr} {c : Nat} {l : List UInt8} (hlt : b < w.heap.size) (h0 : w.cell? ⟨b, 0, none⟩ = some u) (h1 : w.cell? ⟨b, 1, none⟩ = some (.slice A n c)) (hb : ByAt w.heap.size w A c l) (hn : l.length = n) (h : Below w.heap.size w X) :
    X.cell? ⟨b, 0, none⟩ = some u ∧ X.cell? ⟨b, 1, none⟩ = some (.slice A n c) ∧ (convert 26 9 (.slice A n c)).run Tryd.prog X = .ok (.string ⟨l.toArray⟩) X ∧ Below w.heap.size w X :=
  ⟨(h.cell (p := ⟨b, 0, none⟩) hlt).trans h0, (h.cell (p := ⟨b, 1, none⟩) hlt).trans h1, convS _ X A c n l (hb.below h) hn, h⟩

theorem row_cell' (w : World) (x y : Value) (t : TypeId) (j : Nat) : (w.alloc (.cells #[x, y] t)).cell? ⟨w.heap.size, j, none⟩ = #[x, y][j]? := Joins.cell_alloc_mark_at w #[x, y] t (0, 0) _ j rfl

set_option maxRecDepth 100000 in
set_option maxHeartbeats 4000000 in
theorem frameLong_go (m : Nat) (hm : m ≤ 255) (x : UInt8) (h13 : x ≠ 13) (h10 : x ≠ 10) (h125 : x ≠ 125) (lit : Bool) (W : World) (henv : EnvB W.heap.size W) :
    Calls Tryd.prog 5 #[.int .u8 (m : Int), .int .u8 (x.toNat : Int), .bool lit] W fun e W' => e = .returned (.bool true) ∧ Below W.heap.size W W' := by
  have e1 : ((x.toNat : Int) == 13) = false := byte_ne h13
  have e2 : ((x.toNat : Int) == 10) = false := byte_ne h10
  have e3 : ((x.toNat : Int) == 125) = false := byte_ne h125
  obtain ⟨n, hn, hn1, hn2⟩ : ∃ n : Nat, (8191 : Int) + (m : Int) % 3 = (n : Int) ∧ 8191 ≤ n ∧ n ≤ 8193 := ⟨8191 + m % 3, by omega, by omega, by omega⟩
  have hcv := convS _ (W.alloc (.cells #[.int .u8 (x.toNat : Int)] 5)) (some ⟨W.heap.size, 0, none⟩) 1 1 [x] (byAt_x W x _) rfl
  have RP := Lib.hid (fun X => repeat_any x n (by omega) X)
  have H13 := Lib.hid h13
  have H125 := Lib.hid h125
  have HE := Lib.hid henv
  have B0 := Lib.hid (below_al W (.cells #[.int .u8 (x.toNat : Int)] 5))
  clear h13 h10 h125 henv
  go_enter Tryd.func5, Tryd.ntmps5
  go_wp2_with fail
  refine (RP.out _).mono ?_
  rintro e w1 ⟨rfl, hb1⟩
  have HB1 := Lib.hid (below_next B0.out hb1)
  clear hb1 RP B0 hcv hn
  have AL := Lib.hid (fun (w3 w4 : World) (h : Below w3.heap.size w3 w4) (hB : Below W.heap.size W w3) => alive5_any w4 ((HE.out.step' hB).step' h))
  obtain ⟨q, hq⟩ : ∃ q : Nat, q = 8192 := ⟨_, rfl⟩
  have CS := Lib.hid (fun X (hn : q ≤ n) => cutS X x n q hq hn)
  have HQ := Lib.hid hq
  clear hq
  cases lit with
  | false =>
    go_wp2_with fail
    obtain ⟨cap, w2, hcv, hb2, hby2, hcap2, hs2, _⟩ := convB w1 (⟨Array.replicate n x⟩ ++ ⟨#[13, 10, 122]⟩) (n + 3) (by simp [ByteArray.size])
    have hl2 : (ByteArray.data (⟨Array.replicate n x⟩ ++ ⟨#[13, 10, 122]⟩)).toList = [] ++ (List.replicate n x ++ 13 :: 10 :: [122]) := by simp
    rw [hl2] at hby2
    clear hl2
    have HB2 := Lib.hid (below_next HB1.out hb2)
    have HLEN2 := Lib.hid (show ([] ++ (List.replicate n x ++ 13 :: 10 :: [122])).length = n + 3 by simp)
    by_cases hn3 : n ≤ 8192
    · have e4 : decide ((8192 : Int) < (n : Int)) = false := by simp; omega
      have HR := Lib.hid (Runs.cons (step_short (pre := []) (post := [122]) H13.out H125.out hn3) (.nil _ _))
      have SP := Lib.hid (split_any _ cap (n + 3) _ _ HLEN2.out (by omega) (short_known HR.out (endOf_past (by decide)) (by simp)) w2 (HE.out.step' HB2.out) hby2)
      clear hb2 hby2 HB1
      go_simp
      go_wp2_with fail
      refine SP.out.mono ?_
      rintro e w3 hp
      obtain ⟨v, vs, he, ho, hf, hb⟩ := split_is hp HR.out (endOf_past (by decide))
      subst he
      obtain ⟨g, c, A0, c0, rfl, h0, h1, b0⟩ := one5 ho hf
      have h0' : w3.cell? ⟨g, 0, none⟩ = some (.int .i64 1) := h0
      have hlen : ([] ++ List.replicate n x).length = n := by simp
      have h1' : w3.cell? ⟨g, 1, none⟩ = some (.slice A0 (n) c0) := by rw [← hlen]; exact h1
      have HB3 := Lib.hid (below_next HB2.out hb)
      have hba := below_al w3 (.cells #[.int .i64 1, .slice A0 (n) c0] 42)
      have HBA := Lib.hid hba
      have AL3 := Lib.hid (AL.out w3 _ hba HB3.out)
      have HBY := Lib.hid ((b0.below hba).mono hba.size)
      have a0 : (w3.alloc (.cells #[.int .i64 1, .slice A0 (n) c0] 42)).cell? ⟨w3.heap.size, 0, none⟩ = some (.int .i64 1) := row_cell' _ _ _ _ _
      have a1 : (w3.alloc (.cells #[.int .i64 1, .slice A0 (n) c0] 42)).cell? ⟨w3.heap.size, 1, none⟩ = some (.slice A0 (n) c0) := row_cell' _ _ _ _ _
      have KL := Lib.hid (fun X h => keepL (X := X) (by simp) a0 a1 HBY.out hlen h)
      have htx : (ByteArray.mk ([] ++ List.replicate n x).toArray) = ⟨Array.replicate n x⟩ := by apply ByteArray.ext; apply Array.ext'; simp
      rw [htx] at KL
      clear hp ho hf hb b0 SP h0 h1 HB2 hcv HR hba a0 a1 HBY AL htx HLEN2 hlen
      go_wp2_with fail
      refine AL3.out.mono ?_
      rintro e w5 ⟨rfl, hb5⟩
      obtain ⟨k0, k1, hcv, hb6⟩ := KL.out _ hb5
      clear KL AL3
      go_wp2_with fail
      go_ret
      exact ⟨rfl, below_next HB3.out (below_next HBA.out hb6)⟩
    · have e4 : decide ((8192 : Int) < (n : Int)) = true := by simp; omega
      have e5 : ((8192 : Int) < (n : Int)) := by omega
      have HR := Lib.hid (Runs.cons (step_long (pre := []) (post := [122]) (n := n) H13.out (by omega)) (.nil _ _))
      rw [← HQ.out] at HR
      have SP := Lib.hid (split_any _ cap (n + 3) _ _ HLEN2.out (by omega) (short_known HR.out (endOf_past (by decide)) (by simp)) w2 (HE.out.step' HB2.out) hby2)
      clear hb2 hby2 HB1
      go_simp
      go_wp2_with fail
      refine SP.out.mono ?_
      rintro e w3 hp
      obtain ⟨v, vs, he, ho, hf, hb⟩ := split_is hp HR.out (endOf_past (by decide))
      subst he
      obtain ⟨g, c, A0, c0, rfl, h0, h1, b0⟩ := one5 ho hf
      have h0' : w3.cell? ⟨g, 0, none⟩ = some (.int .i64 3) := h0
      have hlen : (List.replicate q x).length = q := by simp
      have h1' : w3.cell? ⟨g, 1, none⟩ = some (.slice A0 (q) c0) := by rw [← hlen]; exact h1
      have HB3 := Lib.hid (below_next HB2.out hb)
      have hba := below_al w3 (.cells #[.int .i64 3, .slice A0 (q) c0] 42)
      have HBA := Lib.hid hba
      have AL3 := Lib.hid (AL.out w3 _ hba HB3.out)
      have HBY := Lib.hid ((b0.below hba).mono hba.size)
      have a0 : (w3.alloc (.cells #[.int .i64 3, .slice A0 (q) c0] 42)).cell? ⟨w3.heap.size, 0, none⟩ = some (.int .i64 3) := row_cell' _ _ _ _ _
      have a1 : (w3.alloc (.cells #[.int .i64 3, .slice A0 (q) c0] 42)).cell? ⟨w3.heap.size, 1, none⟩ = some (.slice A0 (q) c0) := row_cell' _ _ _ _ _
      have KL := Lib.hid (fun X h => keepL (X := X) (by simp) a0 a1 HBY.out hlen h)
      have htx : (ByteArray.mk (List.replicate q x).toArray) = ⟨Array.replicate q x⟩ := by apply ByteArray.ext; apply Array.ext'; simp
      rw [htx] at KL
      clear hp ho hf hb b0 SP h0 h1 HB2 hcv HR hba a0 a1 HBY AL htx HLEN2 hlen
      have CS8 := fun X => CS.out X (by have := HQ.out; omega)
      have AL4 := Lib.hid (fun X (hX : Below (w3.alloc (.cells #[.int .i64 3, .slice A0 (q) c0] 42)).heap.size (w3.alloc (.cells #[.int .i64 3, .slice A0 (q) c0] 42)) X) => (alive5_any X ((HE.out.step' (below_next HB3.out HBA.out)).step' hX)).mono (fun e' w' (h : e' = .returned (.bool true) ∧ Below X.heap.size X w') => (⟨h.1, below_next hX h.2⟩ : e' = .returned (.bool true) ∧ Below (w3.alloc (.cells #[.int .i64 3, .slice A0 (q) c0] 42)).heap.size (w3.alloc (.cells #[.int .i64 3, .slice A0 (q) c0] 42)) w')))
      clear AL3
      go_wp2_with fail
      generalize hb9 : w3.heap.size = b9 at *
      generalize w3.alloc (.cells #[.int .i64 3, .slice A0 q c0] 42) = w4 at *
      go_region_held3 (fun w' => w'.cell? ⟨b9, 0, none⟩ = some (.int .i64 3) ∧ w'.cell? ⟨b9, 1, none⟩ = some (.slice A0 q c0) ∧ (convert 26 9 (.slice A0 q c0)).run Tryd.prog w' = .ok (.string ⟨Array.replicate q x⟩) w' ∧ Below w4.heap.size w4 w')
        ((refine KL.out _ ?_; repeat (first | assumption | exact Below.refl _ _ | refine belDrawN ?_ _ | refine belDraw ?_)))
        ((go_at_call 8; refine (AL4.out _ (by repeat (first | assumption | exact Below.refl _ _ | refine belDrawN ?_ _ | refine belDraw ?_))).mono ?_; rintro e' w5 ⟨rfl, hb5⟩))
      go_wp2_with fail
      go_ret
      subst hb9
      exact ⟨rfl, below_next HB3.out (below_next HBA.out (by assumption))⟩
  | true =>
    go_wp2_with fail
    obtain ⟨cap, w2, hcv, hb2, hby2, hcap2, hs2, _⟩ := convB w1 (⟨#[123, 49, 125, 13, 10, 120]⟩ ++ ⟨Array.replicate n x⟩ ++ ⟨#[13, 10, 122]⟩) (n + 9) (by simp [ByteArray.size]; omega)
    have hl2 : (ByteArray.data (⟨#[123, 49, 125, 13, 10, 120]⟩ ++ ⟨Array.replicate n x⟩ ++ ⟨#[13, 10, 122]⟩)).toList = litP ++ (List.replicate n x ++ 13 :: 10 :: [122]) := by simp [litP]
    rw [hl2] at hby2
    clear hl2
    have HB2 := Lib.hid (below_next HB1.out hb2)
    have HLEN2 := Lib.hid (show (litP ++ (List.replicate n x ++ 13 :: 10 :: [122])).length = n + 9 by simp [litP])
    by_cases hn3 : n ≤ 8192
    · have e4 : decide ((8192 : Int) < (n : Int)) = false := by simp; omega
      have HR := Lib.hid (Runs.cons (step_lit _) (Runs.cons (step_short (pre := litP) (post := [122]) H13.out H125.out hn3) (.nil _ _)))
      have SP := Lib.hid (split_any _ cap (n + 9) _ _ HLEN2.out (by omega) (short_known HR.out (endOf_past (by decide)) (by simp)) w2 (HE.out.step' HB2.out) hby2)
      clear hb2 hby2 HB1
      go_simp
      go_wp2_with fail
      refine SP.out.mono ?_
      rintro e w3 hp
      obtain ⟨v, vs, he, ho, hf, hb⟩ := split_is hp HR.out (endOf_past (by decide))
      subst he
      obtain ⟨g, c, A1, c1, A0, c0, rfl, k0, _, h0, h1, _, b0⟩ := two5 ho hf
      have h0' : w3.cell? ⟨g, 2, none⟩ = some (.int .i64 1) := h0
      have hlen : (litP ++ List.replicate n x).length = n + 6 := by simp [litP]
      have h1' : w3.cell? ⟨g, 3, none⟩ = some (.slice A0 (n + 6) c0) := by rw [← hlen]; exact h1
      have k0' : w3.cell? ⟨g, 0, none⟩ = some (.int .i64 2) := k0
      have HB3 := Lib.hid (below_next HB2.out hb)
      have hba := below_al w3 (.cells #[.int .i64 1, .slice A0 (n + 6) c0] 42)
      have HBA := Lib.hid hba
      have AL3 := Lib.hid (AL.out w3 _ hba HB3.out)
      have HBY := Lib.hid ((b0.below hba).mono hba.size)
      have a0 : (w3.alloc (.cells #[.int .i64 1, .slice A0 (n + 6) c0] 42)).cell? ⟨w3.heap.size, 0, none⟩ = some (.int .i64 1) := row_cell' _ _ _ _ _
      have a1 : (w3.alloc (.cells #[.int .i64 1, .slice A0 (n + 6) c0] 42)).cell? ⟨w3.heap.size, 1, none⟩ = some (.slice A0 (n + 6) c0) := row_cell' _ _ _ _ _
      have KL := Lib.hid (fun X h => keepL (X := X) (by simp) a0 a1 HBY.out hlen h)
      have htx : (ByteArray.mk (litP ++ List.replicate n x).toArray) = (⟨#[123, 49, 125, 13, 10, 120]⟩ ++ ⟨Array.replicate n x⟩) := by apply ByteArray.ext; apply Array.ext'; simp [litP]
      rw [htx] at KL
      clear hp ho hf hb b0 SP h0 h1 HB2 hcv HR hba a0 a1 HBY AL htx HLEN2 hlen
      go_wp2_with fail
      refine AL3.out.mono ?_
      rintro e w5 ⟨rfl, hb5⟩
      obtain ⟨k0, k1, hcv, hb6⟩ := KL.out _ hb5
      clear KL AL3
      go_wp2_with fail
      go_ret
      exact ⟨rfl, below_next HB3.out (below_next HBA.out hb6)⟩
    · have e4 : decide ((8192 : Int) < (n : Int)) = true := by simp; omega
      have e5 : ((8192 : Int) < (n : Int)) := by omega
      have HR := Lib.hid (Runs.cons (step_lit _) (Runs.cons (step_long (pre := litP) (post := [122]) (n := n) H13.out (by omega)) (.nil _ _)))
      rw [← HQ.out] at HR
      have SP := Lib.hid (split_any _ cap (n + 9) _ _ HLEN2.out (by omega) (short_known HR.out (endOf_past (by decide)) (by simp)) w2 (HE.out.step' HB2.out) hby2)
      clear hb2 hby2 HB1
      go_simp
      go_wp2_with fail
      refine SP.out.mono ?_
      rintro e w3 hp
      obtain ⟨v, vs, he, ho, hf, hb⟩ := split_is hp HR.out (endOf_past (by decide))
      subst he
      obtain ⟨g, c, A1, c1, A0, c0, rfl, k0, _, h0, h1, _, b0⟩ := two5 ho hf
      have h0' : w3.cell? ⟨g, 2, none⟩ = some (.int .i64 3) := h0
      have hlen : (List.replicate q x).length = q := by simp
      have h1' : w3.cell? ⟨g, 3, none⟩ = some (.slice A0 (q) c0) := by rw [← hlen]; exact h1
      have k0' : w3.cell? ⟨g, 0, none⟩ = some (.int .i64 2) := k0
      have HB3 := Lib.hid (below_next HB2.out hb)
      have hba := below_al w3 (.cells #[.int .i64 3, .slice A0 (q) c0] 42)
      have HBA := Lib.hid hba
      have AL3 := Lib.hid (AL.out w3 _ hba HB3.out)
      have HBY := Lib.hid ((b0.below hba).mono hba.size)
      have a0 : (w3.alloc (.cells #[.int .i64 3, .slice A0 (q) c0] 42)).cell? ⟨w3.heap.size, 0, none⟩ = some (.int .i64 3) := row_cell' _ _ _ _ _
      have a1 : (w3.alloc (.cells #[.int .i64 3, .slice A0 (q) c0] 42)).cell? ⟨w3.heap.size, 1, none⟩ = some (.slice A0 (q) c0) := row_cell' _ _ _ _ _
      have KL := Lib.hid (fun X h => keepL (X := X) (by simp) a0 a1 HBY.out hlen h)
      have htx : (ByteArray.mk (List.replicate q x).toArray) = ⟨Array.replicate q x⟩ := by apply ByteArray.ext; apply Array.ext'; simp
      rw [htx] at KL
      clear hp ho hf hb b0 SP h0 h1 HB2 hcv HR hba a0 a1 HBY AL htx HLEN2 hlen
      have CS8 := fun X => CS.out X (by have := HQ.out; omega)
      have AL4 := Lib.hid (fun X (hX : Below (w3.alloc (.cells #[.int .i64 3, .slice A0 (q) c0] 42)).heap.size (w3.alloc (.cells #[.int .i64 3, .slice A0 (q) c0] 42)) X) => (alive5_any X ((HE.out.step' (below_next HB3.out HBA.out)).step' hX)).mono (fun e' w' (h : e' = .returned (.bool true) ∧ Below X.heap.size X w') => (⟨h.1, below_next hX h.2⟩ : e' = .returned (.bool true) ∧ Below (w3.alloc (.cells #[.int .i64 3, .slice A0 (q) c0] 42)).heap.size (w3.alloc (.cells #[.int .i64 3, .slice A0 (q) c0] 42)) w')))
      clear AL3
      go_wp2_with fail
      generalize hb9 : w3.heap.size = b9 at *
      generalize w3.alloc (.cells #[.int .i64 3, .slice A0 q c0] 42) = w4 at *
      go_region_held3 (fun w' => w'.cell? ⟨b9, 0, none⟩ = some (.int .i64 3) ∧ w'.cell? ⟨b9, 1, none⟩ = some (.slice A0 q c0) ∧ (convert 26 9 (.slice A0 q c0)).run Tryd.prog w' = .ok (.string ⟨Array.replicate q x⟩) w' ∧ Below w4.heap.size w4 w')
        ((refine KL.out _ ?_; repeat (first | assumption | exact Below.refl _ _ | refine belDrawN ?_ _ | refine belDraw ?_)))
        ((go_at_call 8; refine (AL4.out _ (by repeat (first | assumption | exact Below.refl _ _ | refine belDrawN ?_ _ | refine belDraw ?_))).mono ?_; rintro e' w5 ⟨rfl, hb5⟩))
      go_wp2_with fail
      go_ret
      subst hb9
      exact ⟨rfl, below_next HB3.out (below_next HBA.out (by assumption))⟩

set_option maxRecDepth 100000 in
set_option maxHeartbeats 4000000 in
theorem frameLong_end (m k : Nat) (hk : k = 13 ∨ k = 10 ∨ k = 125) (lit : Bool) (W : World) (henv : EnvB W.heap.size W) :
    Calls Tryd.prog 5 #[.int .u8 (m : Int), .int .u8 (k : Int), .bool lit] W fun e W' => e = .returned (.bool true) ∧ Below W.heap.size W W' := by
  have AL := Lib.hid (alive5_any W henv)
  clear henv
  rcases hk with rfl | rfl | rfl
  all_goals
    go_enter Tryd.func5, Tryd.ntmps5
    go_wp2_with fail
    refine AL.out.mono ?_
    rintro e w1 ⟨rfl, hb⟩
    go_wp2_with fail
    go_ret
    exact ⟨rfl, hb⟩
theorem frameLong_any (m : Nat) (hm : m ≤ 255) (k : Nat) (hk : k ≤ 255) (lit : Bool) (W : World) (henv : EnvB W.heap.size W) :
    Calls Tryd.prog 5 #[.int .u8 (m : Int), .int .u8 (k : Int), .bool lit] W fun e W' => e = .returned (.bool true) ∧ Below W.heap.size W W' := by
  by_cases h : k = 13 ∨ k = 10 ∨ k = 125
  · exact frameLong_end m k h lit W henv
  · have hx : (UInt8.ofNat k).toNat = k := by simp; omega
    have hne : ∀ j : Nat, j < 256 → k ≠ j → UInt8.ofNat k ≠ UInt8.ofNat j := fun j hj hkj e => hkj (by
      have := congrArg UInt8.toNat e
      rw [hx] at this
      rw [this]
      simp
      omega)
    have := frameLong_go m hm (UInt8.ofNat k) (hne 13 (by omega) (by omega)) (hne 10 (by omega) (by omega)) (hne 125 (by omega) (by omega)) lit W henv
    rw [hx] at this
    exact this
end Go.Proofs.YtldlghfjinpnkaaDoor
