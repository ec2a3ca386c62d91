/- The reference of layer 7: body, the short ways. -/
import Derived.Test.YthfopimgdikpgaaGreatDoorRef07R
namespace Go.Proofs.YthfopimgdikpgaaGreatDoor
open Go.RowKit

set_option maxRecDepth 100000 in
set_option maxHeartbeats 600000 in
theorem body_nil (A : Option Addr) (k : Nat) (tag : List UInt8) (w : World) :
    Calls Tryz.prog 30 #[.string ⟨tag.toArray⟩, .slice A 0 k] w (BPost (bodyR tag []) w) := by
  obtain ⟨O, hO⟩ : ∃ O, bodyR tag [] = O := ⟨_, rfl⟩
  rw [hO]
  have HO : Hid (O = none) := Lib.hid hO.symm
  clear hO
  have HW := Lib.hid (BW.start w tag)
  go_enter Tryz.func30, Tryz.ntmps30
  go_upto_region 2 with (fail)
  generalize ((w.alloc (.cells #[.string ⟨#[]⟩, .int .i64 0, .string ⟨#[]⟩, .slice none 0 0, .int .i64 0, .int .i64 0, .bool false, .int .u8 0, .slice none 0 0] 27)).alloc (.cells #[.string ⟨tag.toArray⟩, .int .i64 0, .string ⟨#[]⟩, .slice none 0 0, .int .i64 0, .int .i64 0, .bool false, .int .u8 0, .slice none 0 0] 27)) = W2 at *
  obtain ⟨x0, x1, x2, x3, x4, x5, x6, x7, x8⟩ := cells9 HW.out.hx
  obtain ⟨z0, z1, z2, z3, z4, z5, z6, z7, z8⟩ := cells9 HW.out.hr
  have ur := fun j => Joins.unfrozen_of_block HW.out.hr j
  have ux := fun j => Joins.unfrozen_of_block HW.out.hx j
  go_wp2_with fail
  refine body_fin (q := false) HW.out.hr ?_ ?_ ?_
  · rfl
  · rfl
  · exact .no HO.out (stC_below HW.out.hb)

set_option maxRecDepth 100000 in
set_option maxHeartbeats 1000000 in
theorem body_no4 {t : Tok} {r : List Tok} (A : Option Addr) (k : Nat) (tag : List UInt8) (hl : (t :: r).length ≤ 10000) (htx : ∀ x ∈ (t :: r), x.kind ≤ 6 ∧ x.text.length ≤ 9000) (w : World) (hS : SlAt encT 3 w A (t :: r)) (h4 : t.kind ≠ 4) :
    Calls Tryz.prog 30 #[.string ⟨tag.toArray⟩, .slice A (t :: r).length k] w (BPost (bodyR tag (t :: r)) w) := by
  obtain ⟨O, hO⟩ : ∃ O, bodyR tag (t :: r) = O := ⟨_, rfl⟩
  obtain ⟨n, hn⟩ : ∃ n, (t :: r).length = n := ⟨_, rfl⟩
  rw [hO, hn]
  have HS := Lib.hid hS
  have HTX := Lib.hid htx
  have hn0 : 0 < n := by rw [← hn]; simp
  have g0 : ((n : Int) == 0) = false := by simp; omega
  have g0' : ¬ (n : Int) = 0 := by omega
  obtain ⟨b, off, rfl, hb0, _, _, _⟩ := tk_at HS.out (j := 0) (by simp)
  have HK : Hid (∀ W, Below w.heap.size w W → ∀ j (hj : j < (t :: r).length), W.cell? ⟨b, off + j * 3, none⟩ = some (.int .i64 ((t :: r)[j].kind : Int)) ∧ W.cell? ⟨b, off + j * 3 + 1, none⟩ = some (.string ⟨(t :: r)[j].text.toArray⟩) ∧ W.cell? ⟨b, off + j * 3 + 2, none⟩ = some (.int .i64 ((t :: r)[j].at_ : Int))) := Lib.hid (fun W hW j hj => by
    obtain ⟨b', off', he, _, h1, h2, h3⟩ := tk_at (HS.out.below hW) hj
    cases he
    exact ⟨h1, h2, h3⟩)
  have HO : Hid (O = none) := Lib.hid (by rw [← hO]; exact bodyR_no4 tag h4)
  have f1 : ((t.kind : Int) != 4) = true := by simp; omega
  clear hO hS htx hl hn
  have HW := Lib.hid (BW.start w tag)
  go_enter Tryz.func30, Tryz.ntmps30
  go_upto_region 2 with (fail)
  generalize ((w.alloc (.cells #[.string ⟨#[]⟩, .int .i64 0, .string ⟨#[]⟩, .slice none 0 0, .int .i64 0, .int .i64 0, .bool false, .int .u8 0, .slice none 0 0] 27)).alloc (.cells #[.string ⟨tag.toArray⟩, .int .i64 0, .string ⟨#[]⟩, .slice none 0 0, .int .i64 0, .int .i64 0, .bool false, .int .u8 0, .slice none 0 0] 27)) = W2 at *
  obtain ⟨x0, x1, x2, x3, x4, x5, x6, x7, x8⟩ := cells9 HW.out.hx
  obtain ⟨z0, z1, z2, z3, z4, z5, z6, z7, z8⟩ := cells9 HW.out.hr
  have ur := fun j => Joins.unfrozen_of_block HW.out.hr j
  have ux := fun j => Joins.unfrozen_of_block HW.out.hx j
  have k0 : W2.cell? ⟨b, off, none⟩ = some (.int .i64 (t.kind : Int)) := (HK.out W2 HW.out.hb 0 (by simp)).1
  clear HK HS HTX h4
  generalize t.kind = tk at *
  go_wp2_with fail
  refine body_fin (q := false) HW.out.hr ?_ ?_ ?_
  · rfl
  · rfl
  · exact .no HO.out (stC_below HW.out.hb)

set_option maxRecDepth 100000 in
set_option maxHeartbeats 1000000 in
theorem body_zero {t : Tok} {r : List Tok} (A : Option Addr) (k : Nat) (tag : List UInt8) (hl : (t :: r).length ≤ 10000) (htx : ∀ x ∈ (t :: r), x.kind ≤ 6 ∧ x.text.length ≤ 9000) (w : World) (hS : SlAt encT 3 w A (t :: r)) (h4 : t.kind = 4) (h0 : kindL t.text = 0) :
    Calls Tryz.prog 30 #[.string ⟨tag.toArray⟩, .slice A (t :: r).length k] w (BPost (bodyR tag (t :: r)) w) := by
  obtain ⟨O, hO⟩ : ∃ O, bodyR tag (t :: r) = O := ⟨_, rfl⟩
  obtain ⟨n, hn⟩ : ∃ n, (t :: r).length = n := ⟨_, rfl⟩
  rw [hO, hn]
  have HS := Lib.hid hS
  have HTX := Lib.hid htx
  have hn0 : 0 < n := by rw [← hn]; simp
  have g0 : ((n : Int) == 0) = false := by simp; omega
  have g0' : ¬ (n : Int) = 0 := by omega
  obtain ⟨b, off, rfl, hb0, _, _, _⟩ := tk_at HS.out (j := 0) (by simp)
  have HK : Hid (∀ W, Below w.heap.size w W → ∀ j (hj : j < (t :: r).length), W.cell? ⟨b, off + j * 3, none⟩ = some (.int .i64 ((t :: r)[j].kind : Int)) ∧ W.cell? ⟨b, off + j * 3 + 1, none⟩ = some (.string ⟨(t :: r)[j].text.toArray⟩) ∧ W.cell? ⟨b, off + j * 3 + 2, none⟩ = some (.int .i64 ((t :: r)[j].at_ : Int))) := Lib.hid (fun W hW j hj => by
    obtain ⟨b', off', he, _, h1, h2, h3⟩ := tk_at (HS.out.below hW) hj
    cases he
    exact ⟨h1, h2, h3⟩)
  have HO : Hid (O = none) := Lib.hid (by rw [← hO]; exact bodyR_zero tag h0)
  have e0 : (((kindL t.text : Nat) : Int) == 0) = true := by rw [h0]; rfl
  have e1 : decide (((0 : Int) < (kindL t.text : Nat))) = false := by rw [h0]; rfl
  have e1' : decide (0 < kindL t.text) = false := by rw [h0]; rfl
  clear h0
  clear hO hS htx hl hn
  have f1 : ((t.kind : Int) != 4) = false := by rw [h4]; rfl
  have hlt := (HTX.out t (by simp)).2
  have KD := Lib.hid (fun W => refKind_any ⟨t.text.toArray⟩ (by show t.text.toArray.size ≤ _; simp; omega) W)
  have KD : Hid (∀ W, Calls Tryz.prog 21 #[.string ⟨t.text.toArray⟩] W fun e w' => e = .returned (.int .i64 (kindL t.text : Nat)) ∧ Below W.heap.size W w') := KD
  have HW := Lib.hid (BW.start w tag)
  go_enter Tryz.func30, Tryz.ntmps30
  go_upto_region 2 with (fail)
  generalize ((w.alloc (.cells #[.string ⟨#[]⟩, .int .i64 0, .string ⟨#[]⟩, .slice none 0 0, .int .i64 0, .int .i64 0, .bool false, .int .u8 0, .slice none 0 0] 27)).alloc (.cells #[.string ⟨tag.toArray⟩, .int .i64 0, .string ⟨#[]⟩, .slice none 0 0, .int .i64 0, .int .i64 0, .bool false, .int .u8 0, .slice none 0 0] 27)) = W2 at *
  obtain ⟨x0, x1, x2, x3, x4, x5, x6, x7, x8⟩ := cells9 HW.out.hx
  obtain ⟨z0, z1, z2, z3, z4, z5, z6, z7, z8⟩ := cells9 HW.out.hr
  have ur := fun j => Joins.unfrozen_of_block HW.out.hr j
  have ux := fun j => Joins.unfrozen_of_block HW.out.hx j
  have k0 : W2.cell? ⟨b, off, none⟩ = some (.int .i64 (t.kind : Int)) := (HK.out W2 HW.out.hb 0 (by simp)).1
  have k1 : W2.cell? ⟨b, off + 1, none⟩ = some (.string ⟨t.text.toArray⟩) := (HK.out W2 HW.out.hb 0 (by simp)).2.1
  generalize kindL t.text = kd at *
  generalize t.kind = tk at *
  go_wp2_with fail
  refine (KD.out _).mono ?_
  rintro e w3 ⟨rfl, hb3⟩
  have HW3 := Lib.hid (HW.out.below hb3)
  clear x0 x1 x2 x3 x4 x5 x6 x7 x8 z0 z1 z2 z3 z4 z5 z6 z7 z8 ur ux
  clear KD HW hb3 k0 k1
  obtain ⟨x0, x1, x2, x3, x4, x5, x6, x7, x8⟩ := cells9 HW3.out.hx
  obtain ⟨z0, z1, z2, z3, z4, z5, z6, z7, z8⟩ := cells9 HW3.out.hr
  have ur := fun j => Joins.unfrozen_of_block HW3.out.hr j
  have ux := fun j => Joins.unfrozen_of_block HW3.out.hx j
  have HW4 := Lib.hid (HW3.out.set1 (.int .i64 (kd : Int)))
  go_upto_region 5 with (fail)
  clear x0 x1 x2 x3 x4 x5 x6 x7 x8 z0 z1 z2 z3 z4 z5 z6 z7 z8 ur ux
  clear HW3
  generalize w3.setCell ⟨w.heap.size + 1, 1, none⟩ (.int .i64 (kd : Int)) = w4 at *
  obtain ⟨x0, x1, x2, x3, x4, x5, x6, x7, x8⟩ := cells9 HW4.out.hx
  obtain ⟨z0, z1, z2, z3, z4, z5, z6, z7, z8⟩ := cells9 HW4.out.hr
  have ur := fun j => Joins.unfrozen_of_block HW4.out.hr j
  have ux := fun j => Joins.unfrozen_of_block HW4.out.hx j
  clear HK HS HTX
  go_wp2_with fail
  refine body_fin (q := false) HW4.out.hr ?_ ?_ ?_
  · rfl
  · rfl
  · exact .no HO.out (stC_below HW4.out.hb)

set_option maxRecDepth 100000 in
set_option maxHeartbeats 1000000 in
theorem body_one {t : Tok} {r : List Tok} (A : Option Addr) (k : Nat) (tag : List UInt8) (hl : (t :: r).length ≤ 10000) (htx : ∀ x ∈ (t :: r), x.kind ≤ 6 ∧ x.text.length ≤ 9000) (w : World) (hS : SlAt encT 3 w A (t :: r)) (h4 : t.kind = 4) (h0 : kindL t.text ≠ 0) (h : kindL t.text ≤ 4) (hr : r = []) :
    Calls Tryz.prog 30 #[.string ⟨tag.toArray⟩, .slice A (t :: r).length k] w (BPost (bodyR tag (t :: r)) w) := by
  obtain ⟨O, hO⟩ : ∃ O, bodyR tag (t :: r) = O := ⟨_, rfl⟩
  obtain ⟨n, hn⟩ : ∃ n, (t :: r).length = n := ⟨_, rfl⟩
  rw [hO, hn]
  have HS := Lib.hid hS
  have HTX := Lib.hid htx
  have hn0 : 0 < n := by rw [← hn]; simp
  have g0 : ((n : Int) == 0) = false := by simp; omega
  have g0' : ¬ (n : Int) = 0 := by omega
  obtain ⟨b, off, rfl, hb0, _, _, _⟩ := tk_at HS.out (j := 0) (by simp)
  have HK : Hid (∀ W, Below w.heap.size w W → ∀ j (hj : j < (t :: r).length), W.cell? ⟨b, off + j * 3, none⟩ = some (.int .i64 ((t :: r)[j].kind : Int)) ∧ W.cell? ⟨b, off + j * 3 + 1, none⟩ = some (.string ⟨(t :: r)[j].text.toArray⟩) ∧ W.cell? ⟨b, off + j * 3 + 2, none⟩ = some (.int .i64 ((t :: r)[j].at_ : Int))) := Lib.hid (fun W hW j hj => by
    obtain ⟨b', off', he, _, h1, h2, h3⟩ := tk_at (HS.out.below hW) hj
    cases he
    exact ⟨h1, h2, h3⟩)
  have HO : Hid (O = some { cmd0 tag with kind := kindL t.text }) := Lib.hid (by rw [← hO]; rw [bodyR_low tag h4 h0 h, if_pos hr])
  have e0 : (((kindL t.text : Nat) : Int) == 0) = false := by simp; omega
  have e1 : decide (((0 : Int) < (kindL t.text : Nat))) = true := by simp; omega
  have e1' : decide (0 < kindL t.text) = true := by simp; omega
  have e4 : decide ((((kindL t.text : Nat) : Int) ≤ 4)) = true := by simp; omega
  have e4' : decide (kindL t.text ≤ 4) = true := by simp; omega
  have gn : ((n : Int) == 1) = true := by rw [← hn, hr]; rfl
  clear h0 h
  clear hO hS htx hl hn
  have f1 : ((t.kind : Int) != 4) = false := by rw [h4]; rfl
  have hlt := (HTX.out t (by simp)).2
  have KD := Lib.hid (fun W => refKind_any ⟨t.text.toArray⟩ (by show t.text.toArray.size ≤ _; simp; omega) W)
  have KD : Hid (∀ W, Calls Tryz.prog 21 #[.string ⟨t.text.toArray⟩] W fun e w' => e = .returned (.int .i64 (kindL t.text : Nat)) ∧ Below W.heap.size W w') := KD
  have HW := Lib.hid (BW.start w tag)
  go_enter Tryz.func30, Tryz.ntmps30
  go_upto_region 2 with (fail)
  generalize ((w.alloc (.cells #[.string ⟨#[]⟩, .int .i64 0, .string ⟨#[]⟩, .slice none 0 0, .int .i64 0, .int .i64 0, .bool false, .int .u8 0, .slice none 0 0] 27)).alloc (.cells #[.string ⟨tag.toArray⟩, .int .i64 0, .string ⟨#[]⟩, .slice none 0 0, .int .i64 0, .int .i64 0, .bool false, .int .u8 0, .slice none 0 0] 27)) = W2 at *
  obtain ⟨x0, x1, x2, x3, x4, x5, x6, x7, x8⟩ := cells9 HW.out.hx
  obtain ⟨z0, z1, z2, z3, z4, z5, z6, z7, z8⟩ := cells9 HW.out.hr
  have ur := fun j => Joins.unfrozen_of_block HW.out.hr j
  have ux := fun j => Joins.unfrozen_of_block HW.out.hx j
  have k0 : W2.cell? ⟨b, off, none⟩ = some (.int .i64 (t.kind : Int)) := (HK.out W2 HW.out.hb 0 (by simp)).1
  have k1 : W2.cell? ⟨b, off + 1, none⟩ = some (.string ⟨t.text.toArray⟩) := (HK.out W2 HW.out.hb 0 (by simp)).2.1
  generalize kindL t.text = kd at *
  generalize t.kind = tk at *
  go_wp2_with fail
  refine (KD.out _).mono ?_
  rintro e w3 ⟨rfl, hb3⟩
  have HW3 := Lib.hid (HW.out.below hb3)
  clear x0 x1 x2 x3 x4 x5 x6 x7 x8 z0 z1 z2 z3 z4 z5 z6 z7 z8 ur ux
  clear KD HW hb3 k0 k1
  obtain ⟨x0, x1, x2, x3, x4, x5, x6, x7, x8⟩ := cells9 HW3.out.hx
  obtain ⟨z0, z1, z2, z3, z4, z5, z6, z7, z8⟩ := cells9 HW3.out.hr
  have ur := fun j => Joins.unfrozen_of_block HW3.out.hr j
  have ux := fun j => Joins.unfrozen_of_block HW3.out.hx j
  have HW4 := Lib.hid (HW3.out.set1 (.int .i64 (kd : Int)))
  go_upto_region 5 with (fail)
  clear x0 x1 x2 x3 x4 x5 x6 x7 x8 z0 z1 z2 z3 z4 z5 z6 z7 z8 ur ux
  clear HW3
  generalize w3.setCell ⟨w.heap.size + 1, 1, none⟩ (.int .i64 (kd : Int)) = w4 at *
  obtain ⟨x0, x1, x2, x3, x4, x5, x6, x7, x8⟩ := cells9 HW4.out.hx
  obtain ⟨z0, z1, z2, z3, z4, z5, z6, z7, z8⟩ := cells9 HW4.out.hr
  have ur := fun j => Joins.unfrozen_of_block HW4.out.hr j
  have ux := fun j => Joins.unfrozen_of_block HW4.out.hx j
  clear HK HS HTX
  go_wp2_with fail
  refine body_fin (q := true) HW4.out.hr ?_ ?_ ?_
  · rfl
  · rfl
  · exact .plain (c := { cmd0 tag with kind := kd }) HO.out rfl rfl (stC_below HW4.out.hb)

set_option maxRecDepth 100000 in
set_option maxHeartbeats 1000000 in
theorem body_many {t : Tok} {r : List Tok} (A : Option Addr) (k : Nat) (tag : List UInt8) (hl : (t :: r).length ≤ 10000) (htx : ∀ x ∈ (t :: r), x.kind ≤ 6 ∧ x.text.length ≤ 9000) (w : World) (hS : SlAt encT 3 w A (t :: r)) (h4 : t.kind = 4) (h0 : kindL t.text ≠ 0) (h : kindL t.text ≤ 4) (hr : r ≠ []) :
    Calls Tryz.prog 30 #[.string ⟨tag.toArray⟩, .slice A (t :: r).length k] w (BPost (bodyR tag (t :: r)) w) := by
  obtain ⟨O, hO⟩ : ∃ O, bodyR tag (t :: r) = O := ⟨_, rfl⟩
  obtain ⟨n, hn⟩ : ∃ n, (t :: r).length = n := ⟨_, rfl⟩
  rw [hO, hn]
  have HS := Lib.hid hS
  have HTX := Lib.hid htx
  have hn0 : 0 < n := by rw [← hn]; simp
  have g0 : ((n : Int) == 0) = false := by simp; omega
  have g0' : ¬ (n : Int) = 0 := by omega
  obtain ⟨b, off, rfl, hb0, _, _, _⟩ := tk_at HS.out (j := 0) (by simp)
  have HK : Hid (∀ W, Below w.heap.size w W → ∀ j (hj : j < (t :: r).length), W.cell? ⟨b, off + j * 3, none⟩ = some (.int .i64 ((t :: r)[j].kind : Int)) ∧ W.cell? ⟨b, off + j * 3 + 1, none⟩ = some (.string ⟨(t :: r)[j].text.toArray⟩) ∧ W.cell? ⟨b, off + j * 3 + 2, none⟩ = some (.int .i64 ((t :: r)[j].at_ : Int))) := Lib.hid (fun W hW j hj => by
    obtain ⟨b', off', he, _, h1, h2, h3⟩ := tk_at (HS.out.below hW) hj
    cases he
    exact ⟨h1, h2, h3⟩)
  have HO : Hid (O = none) := Lib.hid (by rw [← hO]; rw [bodyR_low tag h4 h0 h, if_neg hr])
  have e0 : (((kindL t.text : Nat) : Int) == 0) = false := by simp; omega
  have e1 : decide (((0 : Int) < (kindL t.text : Nat))) = true := by simp; omega
  have e1' : decide (0 < kindL t.text) = true := by simp; omega
  have e4 : decide ((((kindL t.text : Nat) : Int) ≤ 4)) = true := by simp; omega
  have e4' : decide (kindL t.text ≤ 4) = true := by simp; omega
  have gn : ((n : Int) == 1) = false := by
    have : r.length ≠ 0 := fun e => hr (List.length_eq_zero_iff.1 e)
    rw [← hn]
    simp
    omega
  clear h0 h
  clear hO hS htx hl hn
  have f1 : ((t.kind : Int) != 4) = false := by rw [h4]; rfl
  have hlt := (HTX.out t (by simp)).2
  have KD := Lib.hid (fun W => refKind_any ⟨t.text.toArray⟩ (by show t.text.toArray.size ≤ _; simp; omega) W)
  have KD : Hid (∀ W, Calls Tryz.prog 21 #[.string ⟨t.text.toArray⟩] W fun e w' => e = .returned (.int .i64 (kindL t.text : Nat)) ∧ Below W.heap.size W w') := KD
  have HW := Lib.hid (BW.start w tag)
  go_enter Tryz.func30, Tryz.ntmps30
  go_upto_region 2 with (fail)
  generalize ((w.alloc (.cells #[.string ⟨#[]⟩, .int .i64 0, .string ⟨#[]⟩, .slice none 0 0, .int .i64 0, .int .i64 0, .bool false, .int .u8 0, .slice none 0 0] 27)).alloc (.cells #[.string ⟨tag.toArray⟩, .int .i64 0, .string ⟨#[]⟩, .slice none 0 0, .int .i64 0, .int .i64 0, .bool false, .int .u8 0, .slice none 0 0] 27)) = W2 at *
  obtain ⟨x0, x1, x2, x3, x4, x5, x6, x7, x8⟩ := cells9 HW.out.hx
  obtain ⟨z0, z1, z2, z3, z4, z5, z6, z7, z8⟩ := cells9 HW.out.hr
  have ur := fun j => Joins.unfrozen_of_block HW.out.hr j
  have ux := fun j => Joins.unfrozen_of_block HW.out.hx j
  have k0 : W2.cell? ⟨b, off, none⟩ = some (.int .i64 (t.kind : Int)) := (HK.out W2 HW.out.hb 0 (by simp)).1
  have k1 : W2.cell? ⟨b, off + 1, none⟩ = some (.string ⟨t.text.toArray⟩) := (HK.out W2 HW.out.hb 0 (by simp)).2.1
  generalize kindL t.text = kd at *
  generalize t.kind = tk at *
  go_wp2_with fail
  refine (KD.out _).mono ?_
  rintro e w3 ⟨rfl, hb3⟩
  have HW3 := Lib.hid (HW.out.below hb3)
  clear x0 x1 x2 x3 x4 x5 x6 x7 x8 z0 z1 z2 z3 z4 z5 z6 z7 z8 ur ux
  clear KD HW hb3 k0 k1
  obtain ⟨x0, x1, x2, x3, x4, x5, x6, x7, x8⟩ := cells9 HW3.out.hx
  obtain ⟨z0, z1, z2, z3, z4, z5, z6, z7, z8⟩ := cells9 HW3.out.hr
  have ur := fun j => Joins.unfrozen_of_block HW3.out.hr j
  have ux := fun j => Joins.unfrozen_of_block HW3.out.hx j
  have HW4 := Lib.hid (HW3.out.set1 (.int .i64 (kd : Int)))
  go_upto_region 5 with (fail)
  clear x0 x1 x2 x3 x4 x5 x6 x7 x8 z0 z1 z2 z3 z4 z5 z6 z7 z8 ur ux
  clear HW3
  generalize w3.setCell ⟨w.heap.size + 1, 1, none⟩ (.int .i64 (kd : Int)) = w4 at *
  obtain ⟨x0, x1, x2, x3, x4, x5, x6, x7, x8⟩ := cells9 HW4.out.hx
  obtain ⟨z0, z1, z2, z3, z4, z5, z6, z7, z8⟩ := cells9 HW4.out.hr
  have ur := fun j => Joins.unfrozen_of_block HW4.out.hr j
  have ux := fun j => Joins.unfrozen_of_block HW4.out.hx j
  clear HK HS HTX
  go_wp2_with fail
  refine body_fin (q := false) HW4.out.hr ?_ ?_ ?_
  · rfl
  · rfl
  · exact .no HO.out (stC_below HW4.out.hb)

end Go.Proofs.YthfopimgdikpgaaGreatDoor

namespace Go.Proofs.YthfopimgdikpgaaGreatDoor
open Go.RowKit

set_option maxRecDepth 100000 in
set_option maxHeartbeats 1000000 in
theorem body_short {t : Tok} {r : List Tok} (A : Option Addr) (k : Nat) (tag : List UInt8) (hl : (t :: r).length ≤ 10000) (htx : ∀ x ∈ (t :: r), x.kind ≤ 6 ∧ x.text.length ≤ 9000) (w : World) (hS : SlAt encT 3 w A (t :: r)) (h4 : t.kind = 4) (h : 4 < kindL t.text) (hn3 : (t :: r).length < 3) :
    Calls Tryz.prog 30 #[.string ⟨tag.toArray⟩, .slice A (t :: r).length k] w (BPost (bodyR tag (t :: r)) w) := by
  obtain ⟨O, hO⟩ : ∃ O, bodyR tag (t :: r) = O := ⟨_, rfl⟩
  obtain ⟨n, hn⟩ : ∃ n, (t :: r).length = n := ⟨_, rfl⟩
  rw [hO, hn]
  have HS := Lib.hid hS
  have HTX := Lib.hid htx
  have hn0 : 0 < n := by rw [← hn]; simp
  have g0 : ((n : Int) == 0) = false := by simp; omega
  have g0' : ¬ (n : Int) = 0 := by omega
  obtain ⟨b, off, rfl, hb0, _, _, _⟩ := tk_at HS.out (j := 0) (by simp)
  have HK : Hid (∀ W, Below w.heap.size w W → ∀ j (hj : j < (t :: r).length), W.cell? ⟨b, off + j * 3, none⟩ = some (.int .i64 ((t :: r)[j].kind : Int)) ∧ W.cell? ⟨b, off + j * 3 + 1, none⟩ = some (.string ⟨(t :: r)[j].text.toArray⟩) ∧ W.cell? ⟨b, off + j * 3 + 2, none⟩ = some (.int .i64 ((t :: r)[j].at_ : Int))) := Lib.hid (fun W hW j hj => by
    obtain ⟨b', off', he, _, h1, h2, h3⟩ := tk_at (HS.out.below hW) hj
    cases he
    exact ⟨h1, h2, h3⟩)
  have HO : Hid (O = none) := Lib.hid (by rw [← hO]; exact bodyR_short tag h hn3)
  have d3 : decide ((n : Int) < 3) = true := by rw [hn] at hn3; simp; omega
  have d3' : decide (n < 3) = true := by rw [hn] at hn3; simp; omega
  have e0 : (((kindL t.text : Nat) : Int) == 0) = false := by simp; omega
  have e4 : decide ((((kindL t.text : Nat) : Int) ≤ 4)) = false := by simp; omega
  have e4' : decide (kindL t.text ≤ 4) = false := by simp; omega
  clear h hn3
  have KK := Lib.hid (fun W (hW : Below w.heap.size w W) => kinds_any (some ⟨b, off, none⟩) k (t :: r) hl (fun x' hx' => (HTX.out x' hx').1) W (HS.out.below hW))
  obtain ⟨KS, hKS⟩ : ∃ KS : ByteArray, (⟨(kindsL (t :: r)).toArray⟩ : ByteArray) = KS := ⟨_, rfl⟩
  rw [hKS, hn] at KK
  have ks0 : KS.size = n := by rw [← hKS, ← hn]; show (kindsL (t :: r)).toArray.size = _; simp [kindsL]
  clear hO hS htx hl hn hKS
  have f1 : ((t.kind : Int) != 4) = false := by rw [h4]; rfl
  have hlt := (HTX.out t (by simp)).2
  have KD := Lib.hid (fun W => refKind_any ⟨t.text.toArray⟩ (by show t.text.toArray.size ≤ _; simp; omega) W)
  have KD : Hid (∀ W, Calls Tryz.prog 21 #[.string ⟨t.text.toArray⟩] W fun e w' => e = .returned (.int .i64 (kindL t.text : Nat)) ∧ Below W.heap.size W w') := KD
  have HW := Lib.hid (BW.start w tag)
  go_enter Tryz.func30, Tryz.ntmps30
  go_upto_region 2 with (fail)
  generalize ((w.alloc (.cells #[.string ⟨#[]⟩, .int .i64 0, .string ⟨#[]⟩, .slice none 0 0, .int .i64 0, .int .i64 0, .bool false, .int .u8 0, .slice none 0 0] 27)).alloc (.cells #[.string ⟨tag.toArray⟩, .int .i64 0, .string ⟨#[]⟩, .slice none 0 0, .int .i64 0, .int .i64 0, .bool false, .int .u8 0, .slice none 0 0] 27)) = W2 at *
  obtain ⟨x0, x1, x2, x3, x4, x5, x6, x7, x8⟩ := cells9 HW.out.hx
  obtain ⟨z0, z1, z2, z3, z4, z5, z6, z7, z8⟩ := cells9 HW.out.hr
  have ur := fun j => Joins.unfrozen_of_block HW.out.hr j
  have ux := fun j => Joins.unfrozen_of_block HW.out.hx j
  have k0 : W2.cell? ⟨b, off, none⟩ = some (.int .i64 (t.kind : Int)) := (HK.out W2 HW.out.hb 0 (by simp)).1
  have k1 : W2.cell? ⟨b, off + 1, none⟩ = some (.string ⟨t.text.toArray⟩) := (HK.out W2 HW.out.hb 0 (by simp)).2.1
  generalize kindL t.text = kd at *
  generalize t.kind = tk at *
  go_wp2_with fail
  refine (KD.out _).mono ?_
  rintro e w3 ⟨rfl, hb3⟩
  have HW3 := Lib.hid (HW.out.below hb3)
  clear x0 x1 x2 x3 x4 x5 x6 x7 x8 z0 z1 z2 z3 z4 z5 z6 z7 z8 ur ux
  clear KD HW hb3 k0 k1
  obtain ⟨x0, x1, x2, x3, x4, x5, x6, x7, x8⟩ := cells9 HW3.out.hx
  obtain ⟨z0, z1, z2, z3, z4, z5, z6, z7, z8⟩ := cells9 HW3.out.hr
  have ur := fun j => Joins.unfrozen_of_block HW3.out.hr j
  have ux := fun j => Joins.unfrozen_of_block HW3.out.hx j
  have HW4 := Lib.hid (HW3.out.set1 (.int .i64 (kd : Int)))
  go_upto_region 5 with (fail)
  clear x0 x1 x2 x3 x4 x5 x6 x7 x8 z0 z1 z2 z3 z4 z5 z6 z7 z8 ur ux
  clear HW3
  generalize w3.setCell ⟨w.heap.size + 1, 1, none⟩ (.int .i64 (kd : Int)) = w4 at *
  obtain ⟨x0, x1, x2, x3, x4, x5, x6, x7, x8⟩ := cells9 HW4.out.hx
  obtain ⟨z0, z1, z2, z3, z4, z5, z6, z7, z8⟩ := cells9 HW4.out.hr
  have ur := fun j => Joins.unfrozen_of_block HW4.out.hr j
  have ux := fun j => Joins.unfrozen_of_block HW4.out.hx j
  go_wp2_with fail
  refine (KK.out _ HW4.out.hb).mono ?_
  rintro e w5 ⟨rfl, hb5⟩
  have HW5 := Lib.hid (HW4.out.below hb5)
  clear x0 x1 x2 x3 x4 x5 x6 x7 x8 z0 z1 z2 z3 z4 z5 z6 z7 z8 ur ux
  clear HW4 hb5 KK HTX
  obtain ⟨x0, x1, x2, x3, x4, x5, x6, x7, x8⟩ := cells9 HW5.out.hx
  obtain ⟨z0, z1, z2, z3, z4, z5, z6, z7, z8⟩ := cells9 HW5.out.hr
  have ur := fun j => Joins.unfrozen_of_block HW5.out.hr j
  have ux := fun j => Joins.unfrozen_of_block HW5.out.hx j
  clear HK HS ks0
  go_wp2_with fail
  refine body_fin (q := false) HW5.out.hr ?_ ?_ ?_
  · rfl
  · rfl
  · exact .no HO.out (stC_below HW5.out.hb)

set_option maxRecDepth 100000 in
set_option maxHeartbeats 1000000 in
theorem body_nos {t s m : Tok} {q : List Tok} (A : Option Addr) (k : Nat) (tag : List UInt8) (hl : (t :: s :: m :: q).length ≤ 10000) (htx : ∀ x ∈ (t :: s :: m :: q), x.kind ≤ 6 ∧ x.text.length ≤ 9000) (w : World) (hS : SlAt encT 3 w A (t :: s :: m :: q)) (h4 : t.kind = 4) (h : 4 < kindL t.text) (hs : s.kind ≠ 1) :
    Calls Tryz.prog 30 #[.string ⟨tag.toArray⟩, .slice A (t :: s :: m :: q).length k] w (BPost (bodyR tag (t :: s :: m :: q)) w) := by
  obtain ⟨O, hO⟩ : ∃ O, bodyR tag (t :: s :: m :: q) = O := ⟨_, rfl⟩
  obtain ⟨n, hn⟩ : ∃ n, (t :: s :: m :: q).length = n := ⟨_, rfl⟩
  rw [hO, hn]
  have HS := Lib.hid hS
  have HTX := Lib.hid htx
  have hn0 : 0 < n := by rw [← hn]; simp
  have g0 : ((n : Int) == 0) = false := by simp; omega
  have g0' : ¬ (n : Int) = 0 := by omega
  have hn3 : 3 ≤ n := by rw [← hn]; simp
  have d3 : decide ((n : Int) < 3) = false := by simp; omega
  have d3' : decide (n < 3) = false := by simp; omega
  obtain ⟨b, off, rfl, hb0, _, _, _⟩ := tk_at HS.out (j := 0) (by simp)
  have HK : Hid (∀ W, Below w.heap.size w W → ∀ j (hj : j < (t :: s :: m :: q).length), W.cell? ⟨b, off + j * 3, none⟩ = some (.int .i64 ((t :: s :: m :: q)[j].kind : Int)) ∧ W.cell? ⟨b, off + j * 3 + 1, none⟩ = some (.string ⟨(t :: s :: m :: q)[j].text.toArray⟩) ∧ W.cell? ⟨b, off + j * 3 + 2, none⟩ = some (.int .i64 ((t :: s :: m :: q)[j].at_ : Int))) := Lib.hid (fun W hW j hj => by
    obtain ⟨b', off', he, _, h1, h2, h3⟩ := tk_at (HS.out.below hW) hj
    cases he
    exact ⟨h1, h2, h3⟩)
  have HO : Hid (O = none) := Lib.hid (by rw [← hO]; exact bodyR_nos tag h hs)
  have hs6 := (htx s (by simp)).1
  have f2 : (((letN s.kind).toNat : Int) != 115) = true := by
    have : ¬ letN s.kind = 115 := fun e => hs ((letN_s hs6).1 e)
    have : ¬ (letN s.kind).toNat = 115 := fun e => this (UInt8.toNat_inj.1 e)
    simp; omega
  have e0 : (((kindL t.text : Nat) : Int) == 0) = false := by simp; omega
  have e4 : decide ((((kindL t.text : Nat) : Int) ≤ 4)) = false := by simp; omega
  have e4' : decide (kindL t.text ≤ 4) = false := by simp; omega
  clear h hs hs6
  have KK := Lib.hid (fun W (hW : Below w.heap.size w W) => kinds_any (some ⟨b, off, none⟩) k (t :: s :: m :: q) hl (fun x' hx' => (HTX.out x' hx').1) W (HS.out.below hW))
  obtain ⟨KS, hKS⟩ : ∃ KS : ByteArray, (⟨(kindsL (t :: s :: m :: q)).toArray⟩ : ByteArray) = KS := ⟨_, rfl⟩
  rw [hKS, hn] at KK
  have ks0 : KS.size = n := by rw [← hKS, ← hn]; show (kindsL (t :: s :: m :: q)).toArray.size = _; simp [kindsL]
  have ks1 : 1 < KS.size := by rw [ks0, ← hn]; simp
  have kb1 : KS[1]'ks1 = letN s.kind := by subst hKS; simp [ByteArray.getElem_eq_getElem_data, kindsL]
  clear hO hS htx hl hn hKS
  have f1 : ((t.kind : Int) != 4) = false := by rw [h4]; rfl
  have hlt := (HTX.out t (by simp)).2
  have KD := Lib.hid (fun W => refKind_any ⟨t.text.toArray⟩ (by show t.text.toArray.size ≤ _; simp; omega) W)
  have KD : Hid (∀ W, Calls Tryz.prog 21 #[.string ⟨t.text.toArray⟩] W fun e w' => e = .returned (.int .i64 (kindL t.text : Nat)) ∧ Below W.heap.size W w') := KD
  have HW := Lib.hid (BW.start w tag)
  go_enter Tryz.func30, Tryz.ntmps30
  go_upto_region 2 with (fail)
  generalize ((w.alloc (.cells #[.string ⟨#[]⟩, .int .i64 0, .string ⟨#[]⟩, .slice none 0 0, .int .i64 0, .int .i64 0, .bool false, .int .u8 0, .slice none 0 0] 27)).alloc (.cells #[.string ⟨tag.toArray⟩, .int .i64 0, .string ⟨#[]⟩, .slice none 0 0, .int .i64 0, .int .i64 0, .bool false, .int .u8 0, .slice none 0 0] 27)) = W2 at *
  obtain ⟨x0, x1, x2, x3, x4, x5, x6, x7, x8⟩ := cells9 HW.out.hx
  obtain ⟨z0, z1, z2, z3, z4, z5, z6, z7, z8⟩ := cells9 HW.out.hr
  have ur := fun j => Joins.unfrozen_of_block HW.out.hr j
  have ux := fun j => Joins.unfrozen_of_block HW.out.hx j
  have k0 : W2.cell? ⟨b, off, none⟩ = some (.int .i64 (t.kind : Int)) := (HK.out W2 HW.out.hb 0 (by simp)).1
  have k1 : W2.cell? ⟨b, off + 1, none⟩ = some (.string ⟨t.text.toArray⟩) := (HK.out W2 HW.out.hb 0 (by simp)).2.1
  generalize kindL t.text = kd at *
  generalize t.kind = tk at *
  go_wp2_with fail
  refine (KD.out _).mono ?_
  rintro e w3 ⟨rfl, hb3⟩
  have HW3 := Lib.hid (HW.out.below hb3)
  clear x0 x1 x2 x3 x4 x5 x6 x7 x8 z0 z1 z2 z3 z4 z5 z6 z7 z8 ur ux
  clear KD HW hb3 k0 k1
  obtain ⟨x0, x1, x2, x3, x4, x5, x6, x7, x8⟩ := cells9 HW3.out.hx
  obtain ⟨z0, z1, z2, z3, z4, z5, z6, z7, z8⟩ := cells9 HW3.out.hr
  have ur := fun j => Joins.unfrozen_of_block HW3.out.hr j
  have ux := fun j => Joins.unfrozen_of_block HW3.out.hx j
  have HW4 := Lib.hid (HW3.out.set1 (.int .i64 (kd : Int)))
  go_upto_region 5 with (fail)
  clear x0 x1 x2 x3 x4 x5 x6 x7 x8 z0 z1 z2 z3 z4 z5 z6 z7 z8 ur ux
  clear HW3
  generalize w3.setCell ⟨w.heap.size + 1, 1, none⟩ (.int .i64 (kd : Int)) = w4 at *
  obtain ⟨x0, x1, x2, x3, x4, x5, x6, x7, x8⟩ := cells9 HW4.out.hx
  obtain ⟨z0, z1, z2, z3, z4, z5, z6, z7, z8⟩ := cells9 HW4.out.hr
  have ur := fun j => Joins.unfrozen_of_block HW4.out.hr j
  have ux := fun j => Joins.unfrozen_of_block HW4.out.hx j
  go_wp2_with fail
  refine (KK.out _ HW4.out.hb).mono ?_
  rintro e w5 ⟨rfl, hb5⟩
  have HW5 := Lib.hid (HW4.out.below hb5)
  clear x0 x1 x2 x3 x4 x5 x6 x7 x8 z0 z1 z2 z3 z4 z5 z6 z7 z8 ur ux
  clear HW4 hb5 KK HTX
  obtain ⟨x0, x1, x2, x3, x4, x5, x6, x7, x8⟩ := cells9 HW5.out.hx
  obtain ⟨z0, z1, z2, z3, z4, z5, z6, z7, z8⟩ := cells9 HW5.out.hr
  have ur := fun j => Joins.unfrozen_of_block HW5.out.hr j
  have ux := fun j => Joins.unfrozen_of_block HW5.out.hx j
  clear HK HS
  generalize letN s.kind = y at *
  go_wp2_with fail
  refine body_fin (q := false) HW5.out.hr ?_ ?_ ?_
  · rfl
  · rfl
  · exact .no HO.out (stC_below HW5.out.hb)

end Go.Proofs.YthfopimgdikpgaaGreatDoor
