/- The reference of layer 7: body, SELECT and APPEND, behind the mailbox. -/
import Derived.Test.YthfopimgdikpgaaGreatDoorRef07R
import Derived.Deep.RegionWith
namespace Go.Proofs.YthfopimgdikpgaaGreatDoor
open Go.RowKit

set_option maxRecDepth 100000 in
set_option maxHeartbeats 1000000 in
theorem body_nomb {t s m : Tok} {q : List Tok} (A : Option Addr) (k : Nat) (tag : List UInt8) (hl : (t :: s :: m :: q).length ≤ 10000) (htx : ∀ x ∈ (t :: s :: m :: q), x.kind ≤ 6 ∧ x.text.length ≤ 9000) (w : World) (hS : SlAt encT 3 w A (t :: s :: m :: q)) (h4 : t.kind = 4) (h : 4 < kindL t.text) (h6 : kindL t.text ≤ 6) (hs : s.kind = 1) (hm : mboxR m = false) :
    Calls Tryz.prog 30 #[.string ⟨tag.toArray⟩, .slice A (t :: s :: m :: q).length k] w (BPost (bodyR tag (t :: s :: m :: q)) w) := by
  obtain ⟨O, hO⟩ : ∃ O, bodyR tag (t :: s :: m :: q) = O := ⟨_, rfl⟩
  obtain ⟨n, hn⟩ : ∃ n, (t :: s :: m :: q).length = n := ⟨_, rfl⟩
  rw [hO, hn]
  have HS := Lib.hid hS
  have HTX := Lib.hid htx
  have hn0 : 0 < n := by rw [← hn]; simp
  have g0 : ((n : Int) == 0) = false := by simp; omega
  have g0' : ¬ (n : Int) = 0 := by omega
  have hn3 : 3 ≤ n := by rw [← hn]; simp
  have d3 : decide ((n : Int) < 3) = false := by simp; omega
  have d3' : decide (n < 3) = false := by simp; omega
  obtain ⟨b, off, rfl, hb0, _, _, _⟩ := tk_at HS.out (j := 0) (by simp)
  have HK : Hid (∀ W, Below w.heap.size w W → ∀ j (hj : j < (t :: s :: m :: q).length), W.cell? ⟨b, off + j * 3, none⟩ = some (.int .i64 ((t :: s :: m :: q)[j].kind : Int)) ∧ W.cell? ⟨b, off + j * 3 + 1, none⟩ = some (.string ⟨(t :: s :: m :: q)[j].text.toArray⟩) ∧ W.cell? ⟨b, off + j * 3 + 2, none⟩ = some (.int .i64 ((t :: s :: m :: q)[j].at_ : Int))) := Lib.hid (fun W hW j hj => by
    obtain ⟨b', off', he, _, h1, h2, h3⟩ := tk_at (HS.out.below hW) hj
    cases he
    exact ⟨h1, h2, h3⟩)
  have HO : Hid (O = none) := Lib.hid (by rw [← hO]; rw [bodyR_mbox tag h4 h h6 hs, if_pos hm])
  have e6 : decide ((((kindL t.text : Nat) : Int) ≤ 6)) = true := by simp; omega
  have e6' : decide (kindL t.text ≤ 6) = true := by simp; omega
  have f2 : (((letN s.kind).toNat : Int) != 115) = false := by rw [hs]; decide
  have hmt := (htx m (by simp)).2
  have MB := Lib.hid (fun W => rmailbox_any m (by omega) W)
  have e0 : (((kindL t.text : Nat) : Int) == 0) = false := by simp; omega
  have e4 : decide ((((kindL t.text : Nat) : Int) ≤ 4)) = false := by simp; omega
  have e4' : decide (kindL t.text ≤ 4) = false := by simp; omega
  clear h
  have KK := Lib.hid (fun W (hW : Below w.heap.size w W) => kinds_any (some ⟨b, off, none⟩) k (t :: s :: m :: q) hl (fun x' hx' => (HTX.out x' hx').1) W (HS.out.below hW))
  obtain ⟨KS, hKS⟩ : ∃ KS : ByteArray, (⟨(kindsL (t :: s :: m :: q)).toArray⟩ : ByteArray) = KS := ⟨_, rfl⟩
  rw [hKS, hn] at KK
  have ks0 : KS.size = n := by rw [← hKS, ← hn]; show (kindsL (t :: s :: m :: q)).toArray.size = _; simp [kindsL]
  have ks1 : 1 < KS.size := by rw [ks0, ← hn]; simp
  have kb1 : KS[1]'ks1 = letN s.kind := by subst hKS; simp [ByteArray.getElem_eq_getElem_data, kindsL]
  clear hO hS htx hl hn hKS hs hmt
  have f1 : ((t.kind : Int) != 4) = false := by rw [h4]; rfl
  have hlt := (HTX.out t (by simp)).2
  have KD := Lib.hid (fun W => refKind_any ⟨t.text.toArray⟩ (by show t.text.toArray.size ≤ _; simp; omega) W)
  have KD : Hid (∀ W, Calls Tryz.prog 21 #[.string ⟨t.text.toArray⟩] W fun e w' => e = .returned (.int .i64 (kindL t.text : Nat)) ∧ Below W.heap.size W w') := KD
  have HW := Lib.hid (BW.start w tag)
  go_enter Tryz.func30, Tryz.ntmps30
  go_upto_region 2 with (fail)
  generalize ((w.alloc (.cells #[.string ⟨#[]⟩, .int .i64 0, .string ⟨#[]⟩, .slice none 0 0, .int .i64 0, .int .i64 0, .bool false, .int .u8 0, .slice none 0 0] 27)).alloc (.cells #[.string ⟨tag.toArray⟩, .int .i64 0, .string ⟨#[]⟩, .slice none 0 0, .int .i64 0, .int .i64 0, .bool false, .int .u8 0, .slice none 0 0] 27)) = W2 at *
  obtain ⟨x0, x1, x2, x3, x4, x5, x6, x7, x8⟩ := cells9 HW.out.hx
  obtain ⟨z0, z1, z2, z3, z4, z5, z6, z7, z8⟩ := cells9 HW.out.hr
  have ur := fun j => Joins.unfrozen_of_block HW.out.hr j
  have ux := fun j => Joins.unfrozen_of_block HW.out.hx j
  have k0 : W2.cell? ⟨b, off, none⟩ = some (.int .i64 (t.kind : Int)) := (HK.out W2 HW.out.hb 0 (by simp)).1
  have k1 : W2.cell? ⟨b, off + 1, none⟩ = some (.string ⟨t.text.toArray⟩) := (HK.out W2 HW.out.hb 0 (by simp)).2.1
  generalize kindL t.text = kd at *
  generalize t.kind = tk at *
  go_wp2_with fail
  refine (KD.out _).mono ?_
  rintro e w3 ⟨rfl, hb3⟩
  have HW3 := Lib.hid (HW.out.below hb3)
  clear x0 x1 x2 x3 x4 x5 x6 x7 x8 z0 z1 z2 z3 z4 z5 z6 z7 z8 ur ux
  clear KD HW hb3 k0 k1
  obtain ⟨x0, x1, x2, x3, x4, x5, x6, x7, x8⟩ := cells9 HW3.out.hx
  obtain ⟨z0, z1, z2, z3, z4, z5, z6, z7, z8⟩ := cells9 HW3.out.hr
  have ur := fun j => Joins.unfrozen_of_block HW3.out.hr j
  have ux := fun j => Joins.unfrozen_of_block HW3.out.hx j
  have HW4 := Lib.hid (HW3.out.set1 (.int .i64 (kd : Int)))
  go_upto_region 5 with (fail)
  clear x0 x1 x2 x3 x4 x5 x6 x7 x8 z0 z1 z2 z3 z4 z5 z6 z7 z8 ur ux
  clear HW3
  generalize w3.setCell ⟨w.heap.size + 1, 1, none⟩ (.int .i64 (kd : Int)) = w4 at *
  obtain ⟨x0, x1, x2, x3, x4, x5, x6, x7, x8⟩ := cells9 HW4.out.hx
  obtain ⟨z0, z1, z2, z3, z4, z5, z6, z7, z8⟩ := cells9 HW4.out.hr
  have ur := fun j => Joins.unfrozen_of_block HW4.out.hr j
  have ux := fun j => Joins.unfrozen_of_block HW4.out.hx j
  go_wp2_with fail
  refine (KK.out _ HW4.out.hb).mono ?_
  rintro e w5 ⟨rfl, hb5⟩
  have HW5 := Lib.hid (HW4.out.below hb5)
  clear x0 x1 x2 x3 x4 x5 x6 x7 x8 z0 z1 z2 z3 z4 z5 z6 z7 z8 ur ux
  clear HW4 hb5 KK HTX
  obtain ⟨x0, x1, x2, x3, x4, x5, x6, x7, x8⟩ := cells9 HW5.out.hx
  obtain ⟨z0, z1, z2, z3, z4, z5, z6, z7, z8⟩ := cells9 HW5.out.hr
  have ur := fun j => Joins.unfrozen_of_block HW5.out.hr j
  have ux := fun j => Joins.unfrozen_of_block HW5.out.hx j
  generalize letN s.kind = y at *
  have p0 : w5.cell? ⟨b, off + 6, none⟩ = some (.int .i64 (m.kind : Int)) := (HK.out w5 HW5.out.hb 2 (by simp)).1
  have p1 : w5.cell? ⟨b, off + 7, none⟩ = some (.string ⟨m.text.toArray⟩) := (HK.out w5 HW5.out.hb 2 (by simp)).2.1
  have p2 : w5.cell? ⟨b, off + 8, none⟩ = some (.int .i64 (m.at_ : Int)) := (HK.out w5 HW5.out.hb 2 (by simp)).2.2
  have p3 : w5.cell? ⟨b, off + 6 + 1, none⟩ = some (.string ⟨m.text.toArray⟩) := p1
  have p4 : w5.cell? ⟨b, off + 6 + 2, none⟩ = some (.int .i64 (m.at_ : Int)) := p2
  have HW6 := Lib.hid (HW5.out.set2 (.string ⟨m.text.toArray⟩))
  go_upto_region 12 with (fail)
  clear x0 x1 x2 x3 x4 x5 x6 x7 x8 z0 z1 z2 z3 z4 z5 z6 z7 z8 ur ux
  clear HW5 p0 p1 p2 p3 p4
  generalize w5.setCell ⟨w.heap.size + 1, 2, none⟩ (.string ⟨m.text.toArray⟩) = w6 at *
  obtain ⟨x0, x1, x2, x3, x4, x5, x6, x7, x8⟩ := cells9 HW6.out.hx
  obtain ⟨z0, z1, z2, z3, z4, z5, z6, z7, z8⟩ := cells9 HW6.out.hr
  have ur := fun j => Joins.unfrozen_of_block HW6.out.hr j
  have ux := fun j => Joins.unfrozen_of_block HW6.out.hx j
  have p0 : w6.cell? ⟨b, off + 6, none⟩ = some (.int .i64 (m.kind : Int)) := (HK.out w6 HW6.out.hb 2 (by simp)).1
  have p1 : w6.cell? ⟨b, off + 7, none⟩ = some (.string ⟨m.text.toArray⟩) := (HK.out w6 HW6.out.hb 2 (by simp)).2.1
  have p2 : w6.cell? ⟨b, off + 8, none⟩ = some (.int .i64 (m.at_ : Int)) := (HK.out w6 HW6.out.hb 2 (by simp)).2.2
  have p3 : w6.cell? ⟨b, off + 6 + 1, none⟩ = some (.string ⟨m.text.toArray⟩) := p1
  have p4 : w6.cell? ⟨b, off + 6 + 2, none⟩ = some (.int .i64 (m.at_ : Int)) := p2
  go_wp2_with fail
  refine (MB.out _).mono ?_
  rintro e w7 ⟨rfl, hb7⟩
  have HW7 := Lib.hid (HW6.out.below hb7)
  clear x0 x1 x2 x3 x4 x5 x6 x7 x8 z0 z1 z2 z3 z4 z5 z6 z7 z8 ur ux
  clear HW6 hb7 MB p0 p1 p2 p3 p4
  obtain ⟨x0, x1, x2, x3, x4, x5, x6, x7, x8⟩ := cells9 HW7.out.hx
  obtain ⟨z0, z1, z2, z3, z4, z5, z6, z7, z8⟩ := cells9 HW7.out.hr
  have ur := fun j => Joins.unfrozen_of_block HW7.out.hr j
  have ux := fun j => Joins.unfrozen_of_block HW7.out.hx j
  clear HK HS
  generalize mboxR m = mb at *
  subst hm
  go_wp2_with fail
  refine body_fin (q := false) HW7.out.hr ?_ ?_ ?_
  · rfl
  · rfl
  · exact .no HO.out (stC_below HW7.out.hb)

set_option maxRecDepth 100000 in
set_option maxHeartbeats 1000000 in
theorem body_sel {t s m : Tok} (A : Option Addr) (k : Nat) (tag : List UInt8) (hl : (t :: s :: m :: []).length ≤ 10000) (htx : ∀ x ∈ (t :: s :: m :: []), x.kind ≤ 6 ∧ x.text.length ≤ 9000) (w : World) (hS : SlAt encT 3 w A (t :: s :: m :: [])) (h4 : t.kind = 4) (h : 4 < kindL t.text) (h6 : kindL t.text ≤ 6) (hs : s.kind = 1) (hm : mboxR m = true) (h5 : kindL t.text = 5) :
    Calls Tryz.prog 30 #[.string ⟨tag.toArray⟩, .slice A (t :: s :: m :: []).length k] w (BPost (bodyR tag (t :: s :: m :: [])) w) := by
  obtain ⟨O, hO⟩ : ∃ O, bodyR tag (t :: s :: m :: []) = O := ⟨_, rfl⟩
  obtain ⟨n, hn⟩ : ∃ n, (t :: s :: m :: []).length = n := ⟨_, rfl⟩
  rw [hO, hn]
  have HS := Lib.hid hS
  have HTX := Lib.hid htx
  have hn0 : 0 < n := by rw [← hn]; simp
  have g0 : ((n : Int) == 0) = false := by simp; omega
  have g0' : ¬ (n : Int) = 0 := by omega
  have hn3 : 3 ≤ n := by rw [← hn]; simp
  have d3 : decide ((n : Int) < 3) = false := by simp; omega
  have d3' : decide (n < 3) = false := by simp; omega
  obtain ⟨b, off, rfl, hb0, _, _, _⟩ := tk_at HS.out (j := 0) (by simp)
  have HK : Hid (∀ W, Below w.heap.size w W → ∀ j (hj : j < (t :: s :: m :: []).length), W.cell? ⟨b, off + j * 3, none⟩ = some (.int .i64 ((t :: s :: m :: [])[j].kind : Int)) ∧ W.cell? ⟨b, off + j * 3 + 1, none⟩ = some (.string ⟨(t :: s :: m :: [])[j].text.toArray⟩) ∧ W.cell? ⟨b, off + j * 3 + 2, none⟩ = some (.int .i64 ((t :: s :: m :: [])[j].at_ : Int))) := Lib.hid (fun W hW j hj => by
    obtain ⟨b', off', he, _, h1, h2, h3⟩ := tk_at (HS.out.below hW) hj
    cases he
    exact ⟨h1, h2, h3⟩)
  have HO : Hid (O = some { cmd0 tag with kind := kindL t.text, mbox := m.text }) := Lib.hid (by rw [← hO]; rw [bodyR_mbox tag h4 h h6 hs, if_neg (by simp [hm]), if_pos h5, if_pos rfl])
  have e5 : (((kindL t.text : Nat) : Int) == 5) = true := by rw [h5]; rfl
  have gn : ((n : Int) == 3) = true := by rw [← hn]; rfl
  clear h5
  have e6 : decide ((((kindL t.text : Nat) : Int) ≤ 6)) = true := by simp; omega
  have e6' : decide (kindL t.text ≤ 6) = true := by simp; omega
  have f2 : (((letN s.kind).toNat : Int) != 115) = false := by rw [hs]; decide
  have hmt := (htx m (by simp)).2
  have MB := Lib.hid (fun W => rmailbox_any m (by omega) W)
  have e0 : (((kindL t.text : Nat) : Int) == 0) = false := by simp; omega
  have e4 : decide ((((kindL t.text : Nat) : Int) ≤ 4)) = false := by simp; omega
  have e4' : decide (kindL t.text ≤ 4) = false := by simp; omega
  clear h
  have KK := Lib.hid (fun W (hW : Below w.heap.size w W) => kinds_any (some ⟨b, off, none⟩) k (t :: s :: m :: []) hl (fun x' hx' => (HTX.out x' hx').1) W (HS.out.below hW))
  obtain ⟨KS, hKS⟩ : ∃ KS : ByteArray, (⟨(kindsL (t :: s :: m :: [])).toArray⟩ : ByteArray) = KS := ⟨_, rfl⟩
  rw [hKS, hn] at KK
  have ks0 : KS.size = n := by rw [← hKS, ← hn]; show (kindsL (t :: s :: m :: [])).toArray.size = _; simp [kindsL]
  have ks1 : 1 < KS.size := by rw [ks0, ← hn]; simp
  have kb1 : KS[1]'ks1 = letN s.kind := by subst hKS; simp [ByteArray.getElem_eq_getElem_data, kindsL]
  clear hO hS htx hl hn hKS hs hmt
  have f1 : ((t.kind : Int) != 4) = false := by rw [h4]; rfl
  have hlt := (HTX.out t (by simp)).2
  have KD := Lib.hid (fun W => refKind_any ⟨t.text.toArray⟩ (by show t.text.toArray.size ≤ _; simp; omega) W)
  have KD : Hid (∀ W, Calls Tryz.prog 21 #[.string ⟨t.text.toArray⟩] W fun e w' => e = .returned (.int .i64 (kindL t.text : Nat)) ∧ Below W.heap.size W w') := KD
  have HW := Lib.hid (BW.start w tag)
  go_enter Tryz.func30, Tryz.ntmps30
  go_upto_region 2 with (fail)
  generalize ((w.alloc (.cells #[.string ⟨#[]⟩, .int .i64 0, .string ⟨#[]⟩, .slice none 0 0, .int .i64 0, .int .i64 0, .bool false, .int .u8 0, .slice none 0 0] 27)).alloc (.cells #[.string ⟨tag.toArray⟩, .int .i64 0, .string ⟨#[]⟩, .slice none 0 0, .int .i64 0, .int .i64 0, .bool false, .int .u8 0, .slice none 0 0] 27)) = W2 at *
  obtain ⟨x0, x1, x2, x3, x4, x5, x6, x7, x8⟩ := cells9 HW.out.hx
  obtain ⟨z0, z1, z2, z3, z4, z5, z6, z7, z8⟩ := cells9 HW.out.hr
  have ur := fun j => Joins.unfrozen_of_block HW.out.hr j
  have ux := fun j => Joins.unfrozen_of_block HW.out.hx j
  have k0 : W2.cell? ⟨b, off, none⟩ = some (.int .i64 (t.kind : Int)) := (HK.out W2 HW.out.hb 0 (by simp)).1
  have k1 : W2.cell? ⟨b, off + 1, none⟩ = some (.string ⟨t.text.toArray⟩) := (HK.out W2 HW.out.hb 0 (by simp)).2.1
  generalize kindL t.text = kd at *
  generalize t.kind = tk at *
  go_wp2_with fail
  refine (KD.out _).mono ?_
  rintro e w3 ⟨rfl, hb3⟩
  have HW3 := Lib.hid (HW.out.below hb3)
  clear x0 x1 x2 x3 x4 x5 x6 x7 x8 z0 z1 z2 z3 z4 z5 z6 z7 z8 ur ux
  clear KD HW hb3 k0 k1
  obtain ⟨x0, x1, x2, x3, x4, x5, x6, x7, x8⟩ := cells9 HW3.out.hx
  obtain ⟨z0, z1, z2, z3, z4, z5, z6, z7, z8⟩ := cells9 HW3.out.hr
  have ur := fun j => Joins.unfrozen_of_block HW3.out.hr j
  have ux := fun j => Joins.unfrozen_of_block HW3.out.hx j
  have HW4 := Lib.hid (HW3.out.set1 (.int .i64 (kd : Int)))
  go_upto_region 5 with (fail)
  clear x0 x1 x2 x3 x4 x5 x6 x7 x8 z0 z1 z2 z3 z4 z5 z6 z7 z8 ur ux
  clear HW3
  generalize w3.setCell ⟨w.heap.size + 1, 1, none⟩ (.int .i64 (kd : Int)) = w4 at *
  obtain ⟨x0, x1, x2, x3, x4, x5, x6, x7, x8⟩ := cells9 HW4.out.hx
  obtain ⟨z0, z1, z2, z3, z4, z5, z6, z7, z8⟩ := cells9 HW4.out.hr
  have ur := fun j => Joins.unfrozen_of_block HW4.out.hr j
  have ux := fun j => Joins.unfrozen_of_block HW4.out.hx j
  go_wp2_with fail
  refine (KK.out _ HW4.out.hb).mono ?_
  rintro e w5 ⟨rfl, hb5⟩
  have HW5 := Lib.hid (HW4.out.below hb5)
  clear x0 x1 x2 x3 x4 x5 x6 x7 x8 z0 z1 z2 z3 z4 z5 z6 z7 z8 ur ux
  clear HW4 hb5 KK HTX
  obtain ⟨x0, x1, x2, x3, x4, x5, x6, x7, x8⟩ := cells9 HW5.out.hx
  obtain ⟨z0, z1, z2, z3, z4, z5, z6, z7, z8⟩ := cells9 HW5.out.hr
  have ur := fun j => Joins.unfrozen_of_block HW5.out.hr j
  have ux := fun j => Joins.unfrozen_of_block HW5.out.hx j
  generalize letN s.kind = y at *
  have p0 : w5.cell? ⟨b, off + 6, none⟩ = some (.int .i64 (m.kind : Int)) := (HK.out w5 HW5.out.hb 2 (by simp)).1
  have p1 : w5.cell? ⟨b, off + 7, none⟩ = some (.string ⟨m.text.toArray⟩) := (HK.out w5 HW5.out.hb 2 (by simp)).2.1
  have p2 : w5.cell? ⟨b, off + 8, none⟩ = some (.int .i64 (m.at_ : Int)) := (HK.out w5 HW5.out.hb 2 (by simp)).2.2
  have p3 : w5.cell? ⟨b, off + 6 + 1, none⟩ = some (.string ⟨m.text.toArray⟩) := p1
  have p4 : w5.cell? ⟨b, off + 6 + 2, none⟩ = some (.int .i64 (m.at_ : Int)) := p2
  have HW6 := Lib.hid (HW5.out.set2 (.string ⟨m.text.toArray⟩))
  go_upto_region 12 with (fail)
  clear x0 x1 x2 x3 x4 x5 x6 x7 x8 z0 z1 z2 z3 z4 z5 z6 z7 z8 ur ux
  clear HW5 p0 p1 p2 p3 p4
  generalize w5.setCell ⟨w.heap.size + 1, 2, none⟩ (.string ⟨m.text.toArray⟩) = w6 at *
  obtain ⟨x0, x1, x2, x3, x4, x5, x6, x7, x8⟩ := cells9 HW6.out.hx
  obtain ⟨z0, z1, z2, z3, z4, z5, z6, z7, z8⟩ := cells9 HW6.out.hr
  have ur := fun j => Joins.unfrozen_of_block HW6.out.hr j
  have ux := fun j => Joins.unfrozen_of_block HW6.out.hx j
  have p0 : w6.cell? ⟨b, off + 6, none⟩ = some (.int .i64 (m.kind : Int)) := (HK.out w6 HW6.out.hb 2 (by simp)).1
  have p1 : w6.cell? ⟨b, off + 7, none⟩ = some (.string ⟨m.text.toArray⟩) := (HK.out w6 HW6.out.hb 2 (by simp)).2.1
  have p2 : w6.cell? ⟨b, off + 8, none⟩ = some (.int .i64 (m.at_ : Int)) := (HK.out w6 HW6.out.hb 2 (by simp)).2.2
  have p3 : w6.cell? ⟨b, off + 6 + 1, none⟩ = some (.string ⟨m.text.toArray⟩) := p1
  have p4 : w6.cell? ⟨b, off + 6 + 2, none⟩ = some (.int .i64 (m.at_ : Int)) := p2
  go_wp2_with fail
  refine (MB.out _).mono ?_
  rintro e w7 ⟨rfl, hb7⟩
  have HW7 := Lib.hid (HW6.out.below hb7)
  clear x0 x1 x2 x3 x4 x5 x6 x7 x8 z0 z1 z2 z3 z4 z5 z6 z7 z8 ur ux
  clear HW6 hb7 MB p0 p1 p2 p3 p4
  obtain ⟨x0, x1, x2, x3, x4, x5, x6, x7, x8⟩ := cells9 HW7.out.hx
  obtain ⟨z0, z1, z2, z3, z4, z5, z6, z7, z8⟩ := cells9 HW7.out.hr
  have ur := fun j => Joins.unfrozen_of_block HW7.out.hr j
  have ux := fun j => Joins.unfrozen_of_block HW7.out.hx j
  clear HK HS
  generalize mboxR m = mb at *
  subst hm
  go_wp2_with fail
  refine body_fin (q := true) HW7.out.hr ?_ ?_ ?_
  · rfl
  · rfl
  · exact .plain (c := { cmd0 tag with kind := kd, mbox := m.text }) HO.out rfl rfl (stC_below HW7.out.hb)

set_option maxRecDepth 100000 in
set_option maxHeartbeats 1000000 in
theorem body_sel2 {t s m z : Tok} {d : List Tok} (A : Option Addr) (k : Nat) (tag : List UInt8) (hl : (t :: s :: m :: z :: d).length ≤ 10000) (htx : ∀ x ∈ (t :: s :: m :: z :: d), x.kind ≤ 6 ∧ x.text.length ≤ 9000) (w : World) (hS : SlAt encT 3 w A (t :: s :: m :: z :: d)) (h4 : t.kind = 4) (h : 4 < kindL t.text) (h6 : kindL t.text ≤ 6) (hs : s.kind = 1) (hm : mboxR m = true) (h5 : kindL t.text = 5) :
    Calls Tryz.prog 30 #[.string ⟨tag.toArray⟩, .slice A (t :: s :: m :: z :: d).length k] w (BPost (bodyR tag (t :: s :: m :: z :: d)) w) := by
  obtain ⟨O, hO⟩ : ∃ O, bodyR tag (t :: s :: m :: z :: d) = O := ⟨_, rfl⟩
  obtain ⟨n, hn⟩ : ∃ n, (t :: s :: m :: z :: d).length = n := ⟨_, rfl⟩
  rw [hO, hn]
  have HS := Lib.hid hS
  have HTX := Lib.hid htx
  have hn0 : 0 < n := by rw [← hn]; simp
  have g0 : ((n : Int) == 0) = false := by simp; omega
  have g0' : ¬ (n : Int) = 0 := by omega
  have hn3 : 3 ≤ n := by rw [← hn]; simp
  have d3 : decide ((n : Int) < 3) = false := by simp; omega
  have d3' : decide (n < 3) = false := by simp; omega
  obtain ⟨b, off, rfl, hb0, _, _, _⟩ := tk_at HS.out (j := 0) (by simp)
  have HK : Hid (∀ W, Below w.heap.size w W → ∀ j (hj : j < (t :: s :: m :: z :: d).length), W.cell? ⟨b, off + j * 3, none⟩ = some (.int .i64 ((t :: s :: m :: z :: d)[j].kind : Int)) ∧ W.cell? ⟨b, off + j * 3 + 1, none⟩ = some (.string ⟨(t :: s :: m :: z :: d)[j].text.toArray⟩) ∧ W.cell? ⟨b, off + j * 3 + 2, none⟩ = some (.int .i64 ((t :: s :: m :: z :: d)[j].at_ : Int))) := Lib.hid (fun W hW j hj => by
    obtain ⟨b', off', he, _, h1, h2, h3⟩ := tk_at (HS.out.below hW) hj
    cases he
    exact ⟨h1, h2, h3⟩)
  have HO : Hid (O = none) := Lib.hid (by rw [← hO]; rw [bodyR_mbox tag h4 h h6 hs, if_neg (by simp [hm]), if_pos h5, if_neg (by simp)])
  have e5 : (((kindL t.text : Nat) : Int) == 5) = true := by rw [h5]; rfl
  have gn : ((n : Int) == 3) = false := by rw [← hn]; simp; omega
  clear h5
  have e6 : decide ((((kindL t.text : Nat) : Int) ≤ 6)) = true := by simp; omega
  have e6' : decide (kindL t.text ≤ 6) = true := by simp; omega
  have f2 : (((letN s.kind).toNat : Int) != 115) = false := by rw [hs]; decide
  have hmt := (htx m (by simp)).2
  have MB := Lib.hid (fun W => rmailbox_any m (by omega) W)
  have e0 : (((kindL t.text : Nat) : Int) == 0) = false := by simp; omega
  have e4 : decide ((((kindL t.text : Nat) : Int) ≤ 4)) = false := by simp; omega
  have e4' : decide (kindL t.text ≤ 4) = false := by simp; omega
  clear h
  have KK := Lib.hid (fun W (hW : Below w.heap.size w W) => kinds_any (some ⟨b, off, none⟩) k (t :: s :: m :: z :: d) hl (fun x' hx' => (HTX.out x' hx').1) W (HS.out.below hW))
  obtain ⟨KS, hKS⟩ : ∃ KS : ByteArray, (⟨(kindsL (t :: s :: m :: z :: d)).toArray⟩ : ByteArray) = KS := ⟨_, rfl⟩
  rw [hKS, hn] at KK
  have ks0 : KS.size = n := by rw [← hKS, ← hn]; show (kindsL (t :: s :: m :: z :: d)).toArray.size = _; simp [kindsL]
  have ks1 : 1 < KS.size := by rw [ks0, ← hn]; simp
  have kb1 : KS[1]'ks1 = letN s.kind := by subst hKS; simp [ByteArray.getElem_eq_getElem_data, kindsL]
  clear hO hS htx hl hn hKS hs hmt
  have f1 : ((t.kind : Int) != 4) = false := by rw [h4]; rfl
  have hlt := (HTX.out t (by simp)).2
  have KD := Lib.hid (fun W => refKind_any ⟨t.text.toArray⟩ (by show t.text.toArray.size ≤ _; simp; omega) W)
  have KD : Hid (∀ W, Calls Tryz.prog 21 #[.string ⟨t.text.toArray⟩] W fun e w' => e = .returned (.int .i64 (kindL t.text : Nat)) ∧ Below W.heap.size W w') := KD
  have HW := Lib.hid (BW.start w tag)
  go_enter Tryz.func30, Tryz.ntmps30
  go_upto_region 2 with (fail)
  generalize ((w.alloc (.cells #[.string ⟨#[]⟩, .int .i64 0, .string ⟨#[]⟩, .slice none 0 0, .int .i64 0, .int .i64 0, .bool false, .int .u8 0, .slice none 0 0] 27)).alloc (.cells #[.string ⟨tag.toArray⟩, .int .i64 0, .string ⟨#[]⟩, .slice none 0 0, .int .i64 0, .int .i64 0, .bool false, .int .u8 0, .slice none 0 0] 27)) = W2 at *
  obtain ⟨x0, x1, x2, x3, x4, x5, x6, x7, x8⟩ := cells9 HW.out.hx
  obtain ⟨z0, z1, z2, z3, z4, z5, z6, z7, z8⟩ := cells9 HW.out.hr
  have ur := fun j => Joins.unfrozen_of_block HW.out.hr j
  have ux := fun j => Joins.unfrozen_of_block HW.out.hx j
  have k0 : W2.cell? ⟨b, off, none⟩ = some (.int .i64 (t.kind : Int)) := (HK.out W2 HW.out.hb 0 (by simp)).1
  have k1 : W2.cell? ⟨b, off + 1, none⟩ = some (.string ⟨t.text.toArray⟩) := (HK.out W2 HW.out.hb 0 (by simp)).2.1
  generalize kindL t.text = kd at *
  generalize t.kind = tk at *
  go_wp2_with fail
  refine (KD.out _).mono ?_
  rintro e w3 ⟨rfl, hb3⟩
  have HW3 := Lib.hid (HW.out.below hb3)
  clear x0 x1 x2 x3 x4 x5 x6 x7 x8 z0 z1 z2 z3 z4 z5 z6 z7 z8 ur ux
  clear KD HW hb3 k0 k1
  obtain ⟨x0, x1, x2, x3, x4, x5, x6, x7, x8⟩ := cells9 HW3.out.hx
  obtain ⟨z0, z1, z2, z3, z4, z5, z6, z7, z8⟩ := cells9 HW3.out.hr
  have ur := fun j => Joins.unfrozen_of_block HW3.out.hr j
  have ux := fun j => Joins.unfrozen_of_block HW3.out.hx j
  have HW4 := Lib.hid (HW3.out.set1 (.int .i64 (kd : Int)))
  go_upto_region 5 with (fail)
  clear x0 x1 x2 x3 x4 x5 x6 x7 x8 z0 z1 z2 z3 z4 z5 z6 z7 z8 ur ux
  clear HW3
  generalize w3.setCell ⟨w.heap.size + 1, 1, none⟩ (.int .i64 (kd : Int)) = w4 at *
  obtain ⟨x0, x1, x2, x3, x4, x5, x6, x7, x8⟩ := cells9 HW4.out.hx
  obtain ⟨z0, z1, z2, z3, z4, z5, z6, z7, z8⟩ := cells9 HW4.out.hr
  have ur := fun j => Joins.unfrozen_of_block HW4.out.hr j
  have ux := fun j => Joins.unfrozen_of_block HW4.out.hx j
  go_wp2_with fail
  refine (KK.out _ HW4.out.hb).mono ?_
  rintro e w5 ⟨rfl, hb5⟩
  have HW5 := Lib.hid (HW4.out.below hb5)
  clear x0 x1 x2 x3 x4 x5 x6 x7 x8 z0 z1 z2 z3 z4 z5 z6 z7 z8 ur ux
  clear HW4 hb5 KK HTX
  obtain ⟨x0, x1, x2, x3, x4, x5, x6, x7, x8⟩ := cells9 HW5.out.hx
  obtain ⟨z0, z1, z2, z3, z4, z5, z6, z7, z8⟩ := cells9 HW5.out.hr
  have ur := fun j => Joins.unfrozen_of_block HW5.out.hr j
  have ux := fun j => Joins.unfrozen_of_block HW5.out.hx j
  generalize letN s.kind = y at *
  have p0 : w5.cell? ⟨b, off + 6, none⟩ = some (.int .i64 (m.kind : Int)) := (HK.out w5 HW5.out.hb 2 (by simp)).1
  have p1 : w5.cell? ⟨b, off + 7, none⟩ = some (.string ⟨m.text.toArray⟩) := (HK.out w5 HW5.out.hb 2 (by simp)).2.1
  have p2 : w5.cell? ⟨b, off + 8, none⟩ = some (.int .i64 (m.at_ : Int)) := (HK.out w5 HW5.out.hb 2 (by simp)).2.2
  have p3 : w5.cell? ⟨b, off + 6 + 1, none⟩ = some (.string ⟨m.text.toArray⟩) := p1
  have p4 : w5.cell? ⟨b, off + 6 + 2, none⟩ = some (.int .i64 (m.at_ : Int)) := p2
  have HW6 := Lib.hid (HW5.out.set2 (.string ⟨m.text.toArray⟩))
  go_upto_region 12 with (fail)
  clear x0 x1 x2 x3 x4 x5 x6 x7 x8 z0 z1 z2 z3 z4 z5 z6 z7 z8 ur ux
  clear HW5 p0 p1 p2 p3 p4
  generalize w5.setCell ⟨w.heap.size + 1, 2, none⟩ (.string ⟨m.text.toArray⟩) = w6 at *
  obtain ⟨x0, x1, x2, x3, x4, x5, x6, x7, x8⟩ := cells9 HW6.out.hx
  obtain ⟨z0, z1, z2, z3, z4, z5, z6, z7, z8⟩ := cells9 HW6.out.hr
  have ur := fun j => Joins.unfrozen_of_block HW6.out.hr j
  have ux := fun j => Joins.unfrozen_of_block HW6.out.hx j
  have p0 : w6.cell? ⟨b, off + 6, none⟩ = some (.int .i64 (m.kind : Int)) := (HK.out w6 HW6.out.hb 2 (by simp)).1
  have p1 : w6.cell? ⟨b, off + 7, none⟩ = some (.string ⟨m.text.toArray⟩) := (HK.out w6 HW6.out.hb 2 (by simp)).2.1
  have p2 : w6.cell? ⟨b, off + 8, none⟩ = some (.int .i64 (m.at_ : Int)) := (HK.out w6 HW6.out.hb 2 (by simp)).2.2
  have p3 : w6.cell? ⟨b, off + 6 + 1, none⟩ = some (.string ⟨m.text.toArray⟩) := p1
  have p4 : w6.cell? ⟨b, off + 6 + 2, none⟩ = some (.int .i64 (m.at_ : Int)) := p2
  go_wp2_with fail
  refine (MB.out _).mono ?_
  rintro e w7 ⟨rfl, hb7⟩
  have HW7 := Lib.hid (HW6.out.below hb7)
  clear x0 x1 x2 x3 x4 x5 x6 x7 x8 z0 z1 z2 z3 z4 z5 z6 z7 z8 ur ux
  clear HW6 hb7 MB p0 p1 p2 p3 p4
  obtain ⟨x0, x1, x2, x3, x4, x5, x6, x7, x8⟩ := cells9 HW7.out.hx
  obtain ⟨z0, z1, z2, z3, z4, z5, z6, z7, z8⟩ := cells9 HW7.out.hr
  have ur := fun j => Joins.unfrozen_of_block HW7.out.hr j
  have ux := fun j => Joins.unfrozen_of_block HW7.out.hx j
  clear HK HS
  generalize mboxR m = mb at *
  subst hm
  go_wp2_with fail
  refine body_fin (q := false) HW7.out.hr ?_ ?_ ?_
  · rfl
  · rfl
  · exact .no HO.out (stC_below HW7.out.hb)

set_option maxRecDepth 100000 in
set_option maxHeartbeats 1000000 in
theorem body_app0 {t s m : Tok} (A : Option Addr) (k : Nat) (tag : List UInt8) (hl : (t :: s :: m :: []).length ≤ 10000) (htx : ∀ x ∈ (t :: s :: m :: []), x.kind ≤ 6 ∧ x.text.length ≤ 9000) (w : World) (hS : SlAt encT 3 w A (t :: s :: m :: [])) (h4 : t.kind = 4) (h : 4 < kindL t.text) (h6 : kindL t.text ≤ 6) (hs : s.kind = 1) (hm : mboxR m = true) (h5 : kindL t.text ≠ 5) :
    Calls Tryz.prog 30 #[.string ⟨tag.toArray⟩, .slice A (t :: s :: m :: []).length k] w (BPost (bodyR tag (t :: s :: m :: [])) w) := by
  obtain ⟨O, hO⟩ : ∃ O, bodyR tag (t :: s :: m :: []) = O := ⟨_, rfl⟩
  obtain ⟨n, hn⟩ : ∃ n, (t :: s :: m :: []).length = n := ⟨_, rfl⟩
  rw [hO, hn]
  have HS := Lib.hid hS
  have HTX := Lib.hid htx
  have hn0 : 0 < n := by rw [← hn]; simp
  have g0 : ((n : Int) == 0) = false := by simp; omega
  have g0' : ¬ (n : Int) = 0 := by omega
  have hn3 : 3 ≤ n := by rw [← hn]; simp
  have d3 : decide ((n : Int) < 3) = false := by simp; omega
  have d3' : decide (n < 3) = false := by simp; omega
  obtain ⟨b, off, rfl, hb0, _, _, _⟩ := tk_at HS.out (j := 0) (by simp)
  have HK : Hid (∀ W, Below w.heap.size w W → ∀ j (hj : j < (t :: s :: m :: []).length), W.cell? ⟨b, off + j * 3, none⟩ = some (.int .i64 ((t :: s :: m :: [])[j].kind : Int)) ∧ W.cell? ⟨b, off + j * 3 + 1, none⟩ = some (.string ⟨(t :: s :: m :: [])[j].text.toArray⟩) ∧ W.cell? ⟨b, off + j * 3 + 2, none⟩ = some (.int .i64 ((t :: s :: m :: [])[j].at_ : Int))) := Lib.hid (fun W hW j hj => by
    obtain ⟨b', off', he, _, h1, h2, h3⟩ := tk_at (HS.out.below hW) hj
    cases he
    exact ⟨h1, h2, h3⟩)
  have HO : Hid (O = none) := Lib.hid (by rw [← hO]; rw [bodyR_mbox tag h4 h h6 hs, if_neg (by simp [hm]), if_neg h5])
  have e5 : (((kindL t.text : Nat) : Int) == 5) = false := by simp; omega
  have e5' : ¬ (((kindL t.text : Nat) : Int) = 5) := by omega
  have d4 : decide ((n : Int) < 4) = true := by rw [← hn]; rfl
  have d4' : decide (n < 4) = true := by rw [← hn]; rfl
  clear h5
  have e6 : decide ((((kindL t.text : Nat) : Int) ≤ 6)) = true := by simp; omega
  have e6' : decide (kindL t.text ≤ 6) = true := by simp; omega
  have f2 : (((letN s.kind).toNat : Int) != 115) = false := by rw [hs]; decide
  have hmt := (htx m (by simp)).2
  have MB := Lib.hid (fun W => rmailbox_any m (by omega) W)
  have e0 : (((kindL t.text : Nat) : Int) == 0) = false := by simp; omega
  have e4 : decide ((((kindL t.text : Nat) : Int) ≤ 4)) = false := by simp; omega
  have e4' : decide (kindL t.text ≤ 4) = false := by simp; omega
  clear h
  have KK := Lib.hid (fun W (hW : Below w.heap.size w W) => kinds_any (some ⟨b, off, none⟩) k (t :: s :: m :: []) hl (fun x' hx' => (HTX.out x' hx').1) W (HS.out.below hW))
  obtain ⟨KS, hKS⟩ : ∃ KS : ByteArray, (⟨(kindsL (t :: s :: m :: [])).toArray⟩ : ByteArray) = KS := ⟨_, rfl⟩
  rw [hKS, hn] at KK
  have ks0 : KS.size = n := by rw [← hKS, ← hn]; show (kindsL (t :: s :: m :: [])).toArray.size = _; simp [kindsL]
  have ks1 : 1 < KS.size := by rw [ks0, ← hn]; simp
  have kb1 : KS[1]'ks1 = letN s.kind := by subst hKS; simp [ByteArray.getElem_eq_getElem_data, kindsL]
  clear hO hS htx hl hn hKS hs hmt
  have f1 : ((t.kind : Int) != 4) = false := by rw [h4]; rfl
  have hlt := (HTX.out t (by simp)).2
  have KD := Lib.hid (fun W => refKind_any ⟨t.text.toArray⟩ (by show t.text.toArray.size ≤ _; simp; omega) W)
  have KD : Hid (∀ W, Calls Tryz.prog 21 #[.string ⟨t.text.toArray⟩] W fun e w' => e = .returned (.int .i64 (kindL t.text : Nat)) ∧ Below W.heap.size W w') := KD
  have HW := Lib.hid (BW.start w tag)
  go_enter Tryz.func30, Tryz.ntmps30
  go_upto_region 2 with (fail)
  generalize ((w.alloc (.cells #[.string ⟨#[]⟩, .int .i64 0, .string ⟨#[]⟩, .slice none 0 0, .int .i64 0, .int .i64 0, .bool false, .int .u8 0, .slice none 0 0] 27)).alloc (.cells #[.string ⟨tag.toArray⟩, .int .i64 0, .string ⟨#[]⟩, .slice none 0 0, .int .i64 0, .int .i64 0, .bool false, .int .u8 0, .slice none 0 0] 27)) = W2 at *
  obtain ⟨x0, x1, x2, x3, x4, x5, x6, x7, x8⟩ := cells9 HW.out.hx
  obtain ⟨z0, z1, z2, z3, z4, z5, z6, z7, z8⟩ := cells9 HW.out.hr
  have ur := fun j => Joins.unfrozen_of_block HW.out.hr j
  have ux := fun j => Joins.unfrozen_of_block HW.out.hx j
  have k0 : W2.cell? ⟨b, off, none⟩ = some (.int .i64 (t.kind : Int)) := (HK.out W2 HW.out.hb 0 (by simp)).1
  have k1 : W2.cell? ⟨b, off + 1, none⟩ = some (.string ⟨t.text.toArray⟩) := (HK.out W2 HW.out.hb 0 (by simp)).2.1
  generalize kindL t.text = kd at *
  generalize t.kind = tk at *
  go_wp2_with fail
  refine (KD.out _).mono ?_
  rintro e w3 ⟨rfl, hb3⟩
  have HW3 := Lib.hid (HW.out.below hb3)
  clear x0 x1 x2 x3 x4 x5 x6 x7 x8 z0 z1 z2 z3 z4 z5 z6 z7 z8 ur ux
  clear KD HW hb3 k0 k1
  obtain ⟨x0, x1, x2, x3, x4, x5, x6, x7, x8⟩ := cells9 HW3.out.hx
  obtain ⟨z0, z1, z2, z3, z4, z5, z6, z7, z8⟩ := cells9 HW3.out.hr
  have ur := fun j => Joins.unfrozen_of_block HW3.out.hr j
  have ux := fun j => Joins.unfrozen_of_block HW3.out.hx j
  have HW4 := Lib.hid (HW3.out.set1 (.int .i64 (kd : Int)))
  go_upto_region 5 with (fail)
  clear x0 x1 x2 x3 x4 x5 x6 x7 x8 z0 z1 z2 z3 z4 z5 z6 z7 z8 ur ux
  clear HW3
  generalize w3.setCell ⟨w.heap.size + 1, 1, none⟩ (.int .i64 (kd : Int)) = w4 at *
  obtain ⟨x0, x1, x2, x3, x4, x5, x6, x7, x8⟩ := cells9 HW4.out.hx
  obtain ⟨z0, z1, z2, z3, z4, z5, z6, z7, z8⟩ := cells9 HW4.out.hr
  have ur := fun j => Joins.unfrozen_of_block HW4.out.hr j
  have ux := fun j => Joins.unfrozen_of_block HW4.out.hx j
  go_wp2_with fail
  refine (KK.out _ HW4.out.hb).mono ?_
  rintro e w5 ⟨rfl, hb5⟩
  have HW5 := Lib.hid (HW4.out.below hb5)
  clear x0 x1 x2 x3 x4 x5 x6 x7 x8 z0 z1 z2 z3 z4 z5 z6 z7 z8 ur ux
  clear HW4 hb5 KK HTX
  obtain ⟨x0, x1, x2, x3, x4, x5, x6, x7, x8⟩ := cells9 HW5.out.hx
  obtain ⟨z0, z1, z2, z3, z4, z5, z6, z7, z8⟩ := cells9 HW5.out.hr
  have ur := fun j => Joins.unfrozen_of_block HW5.out.hr j
  have ux := fun j => Joins.unfrozen_of_block HW5.out.hx j
  generalize letN s.kind = y at *
  have p0 : w5.cell? ⟨b, off + 6, none⟩ = some (.int .i64 (m.kind : Int)) := (HK.out w5 HW5.out.hb 2 (by simp)).1
  have p1 : w5.cell? ⟨b, off + 7, none⟩ = some (.string ⟨m.text.toArray⟩) := (HK.out w5 HW5.out.hb 2 (by simp)).2.1
  have p2 : w5.cell? ⟨b, off + 8, none⟩ = some (.int .i64 (m.at_ : Int)) := (HK.out w5 HW5.out.hb 2 (by simp)).2.2
  have p3 : w5.cell? ⟨b, off + 6 + 1, none⟩ = some (.string ⟨m.text.toArray⟩) := p1
  have p4 : w5.cell? ⟨b, off + 6 + 2, none⟩ = some (.int .i64 (m.at_ : Int)) := p2
  have HW6 := Lib.hid (HW5.out.set2 (.string ⟨m.text.toArray⟩))
  go_upto_region 12 with (fail)
  clear x0 x1 x2 x3 x4 x5 x6 x7 x8 z0 z1 z2 z3 z4 z5 z6 z7 z8 ur ux
  clear HW5 p0 p1 p2 p3 p4
  generalize w5.setCell ⟨w.heap.size + 1, 2, none⟩ (.string ⟨m.text.toArray⟩) = w6 at *
  obtain ⟨x0, x1, x2, x3, x4, x5, x6, x7, x8⟩ := cells9 HW6.out.hx
  obtain ⟨z0, z1, z2, z3, z4, z5, z6, z7, z8⟩ := cells9 HW6.out.hr
  have ur := fun j => Joins.unfrozen_of_block HW6.out.hr j
  have ux := fun j => Joins.unfrozen_of_block HW6.out.hx j
  have p0 : w6.cell? ⟨b, off + 6, none⟩ = some (.int .i64 (m.kind : Int)) := (HK.out w6 HW6.out.hb 2 (by simp)).1
  have p1 : w6.cell? ⟨b, off + 7, none⟩ = some (.string ⟨m.text.toArray⟩) := (HK.out w6 HW6.out.hb 2 (by simp)).2.1
  have p2 : w6.cell? ⟨b, off + 8, none⟩ = some (.int .i64 (m.at_ : Int)) := (HK.out w6 HW6.out.hb 2 (by simp)).2.2
  have p3 : w6.cell? ⟨b, off + 6 + 1, none⟩ = some (.string ⟨m.text.toArray⟩) := p1
  have p4 : w6.cell? ⟨b, off + 6 + 2, none⟩ = some (.int .i64 (m.at_ : Int)) := p2
  go_wp2_with fail
  refine (MB.out _).mono ?_
  rintro e w7 ⟨rfl, hb7⟩
  have HW7 := Lib.hid (HW6.out.below hb7)
  clear x0 x1 x2 x3 x4 x5 x6 x7 x8 z0 z1 z2 z3 z4 z5 z6 z7 z8 ur ux
  clear HW6 hb7 MB p0 p1 p2 p3 p4
  obtain ⟨x0, x1, x2, x3, x4, x5, x6, x7, x8⟩ := cells9 HW7.out.hx
  obtain ⟨z0, z1, z2, z3, z4, z5, z6, z7, z8⟩ := cells9 HW7.out.hr
  have ur := fun j => Joins.unfrozen_of_block HW7.out.hr j
  have ux := fun j => Joins.unfrozen_of_block HW7.out.hx j
  clear HK HS
  generalize mboxR m = mb at *
  subst hm
  go_wp2_with fail
  refine body_fin (q := false) HW7.out.hr ?_ ?_ ?_
  · rfl
  · rfl
  · exact .no HO.out (stC_below HW7.out.hb)

set_option maxRecDepth 100000 in
set_option maxHeartbeats 1000000 in
theorem body_app1 {t s m z : Tok} {d : List Tok} (A : Option Addr) (k : Nat) (tag : List UInt8) (hl : (t :: s :: m :: z :: d).length ≤ 10000) (htx : ∀ x ∈ (t :: s :: m :: z :: d), x.kind ≤ 6 ∧ x.text.length ≤ 9000) (w : World) (hS : SlAt encT 3 w A (t :: s :: m :: z :: d)) (h4 : t.kind = 4) (h : 4 < kindL t.text) (h6 : kindL t.text ≤ 6) (hs : s.kind = 1) (hm : mboxR m = true) (h5 : kindL t.text ≠ 5) (hz : z.kind ≠ 1) :
    Calls Tryz.prog 30 #[.string ⟨tag.toArray⟩, .slice A (t :: s :: m :: z :: d).length k] w (BPost (bodyR tag (t :: s :: m :: z :: d)) w) := by
  obtain ⟨O, hO⟩ : ∃ O, bodyR tag (t :: s :: m :: z :: d) = O := ⟨_, rfl⟩
  obtain ⟨n, hn⟩ : ∃ n, (t :: s :: m :: z :: d).length = n := ⟨_, rfl⟩
  rw [hO, hn]
  have HS := Lib.hid hS
  have HTX := Lib.hid htx
  have hn0 : 0 < n := by rw [← hn]; simp
  have g0 : ((n : Int) == 0) = false := by simp; omega
  have g0' : ¬ (n : Int) = 0 := by omega
  have hn3 : 3 ≤ n := by rw [← hn]; simp
  have d3 : decide ((n : Int) < 3) = false := by simp; omega
  have d3' : decide (n < 3) = false := by simp; omega
  obtain ⟨b, off, rfl, hb0, _, _, _⟩ := tk_at HS.out (j := 0) (by simp)
  have HK : Hid (∀ W, Below w.heap.size w W → ∀ j (hj : j < (t :: s :: m :: z :: d).length), W.cell? ⟨b, off + j * 3, none⟩ = some (.int .i64 ((t :: s :: m :: z :: d)[j].kind : Int)) ∧ W.cell? ⟨b, off + j * 3 + 1, none⟩ = some (.string ⟨(t :: s :: m :: z :: d)[j].text.toArray⟩) ∧ W.cell? ⟨b, off + j * 3 + 2, none⟩ = some (.int .i64 ((t :: s :: m :: z :: d)[j].at_ : Int))) := Lib.hid (fun W hW j hj => by
    obtain ⟨b', off', he, _, h1, h2, h3⟩ := tk_at (HS.out.below hW) hj
    cases he
    exact ⟨h1, h2, h3⟩)
  have HO : Hid (O = none) := Lib.hid (by rw [← hO]; rw [bodyR_mbox tag h4 h h6 hs, if_neg (by simp [hm]), if_neg h5]; exact if_neg hz)
  have e5 : (((kindL t.text : Nat) : Int) == 5) = false := by simp; omega
  have e5' : ¬ (((kindL t.text : Nat) : Int) = 5) := by omega
  have d4 : decide ((n : Int) < 4) = false := by rw [← hn]; simp; omega
  have d4' : decide (n < 4) = false := by rw [← hn]; simp
  have f3 : (((letN z.kind).toNat : Int) != 115) = true := by
    have hz6 := (htx z (by simp)).1
    have : ¬ letN z.kind = 115 := fun e => hz ((letN_s hz6).1 e)
    have : ¬ (letN z.kind).toNat = 115 := fun e => this (UInt8.toNat_inj.1 e)
    simp; omega
  clear h5 hz
  have e6 : decide ((((kindL t.text : Nat) : Int) ≤ 6)) = true := by simp; omega
  have e6' : decide (kindL t.text ≤ 6) = true := by simp; omega
  have f2 : (((letN s.kind).toNat : Int) != 115) = false := by rw [hs]; decide
  have hmt := (htx m (by simp)).2
  have MB := Lib.hid (fun W => rmailbox_any m (by omega) W)
  have e0 : (((kindL t.text : Nat) : Int) == 0) = false := by simp; omega
  have e4 : decide ((((kindL t.text : Nat) : Int) ≤ 4)) = false := by simp; omega
  have e4' : decide (kindL t.text ≤ 4) = false := by simp; omega
  clear h
  have KK := Lib.hid (fun W (hW : Below w.heap.size w W) => kinds_any (some ⟨b, off, none⟩) k (t :: s :: m :: z :: d) hl (fun x' hx' => (HTX.out x' hx').1) W (HS.out.below hW))
  obtain ⟨KS, hKS⟩ : ∃ KS : ByteArray, (⟨(kindsL (t :: s :: m :: z :: d)).toArray⟩ : ByteArray) = KS := ⟨_, rfl⟩
  rw [hKS, hn] at KK
  have ks0 : KS.size = n := by rw [← hKS, ← hn]; show (kindsL (t :: s :: m :: z :: d)).toArray.size = _; simp [kindsL]
  have ks1 : 1 < KS.size := by rw [ks0, ← hn]; simp
  have kb1 : KS[1]'ks1 = letN s.kind := by subst hKS; simp [ByteArray.getElem_eq_getElem_data, kindsL]
  have ks3 : 3 < KS.size := by rw [ks0, ← hn]; simp
  have kb3 : KS[3]'ks3 = letN z.kind := by subst hKS; simp [ByteArray.getElem_eq_getElem_data, kindsL]
  clear hO hS htx hl hn hKS hs hmt
  have f1 : ((t.kind : Int) != 4) = false := by rw [h4]; rfl
  have hlt := (HTX.out t (by simp)).2
  have KD := Lib.hid (fun W => refKind_any ⟨t.text.toArray⟩ (by show t.text.toArray.size ≤ _; simp; omega) W)
  have KD : Hid (∀ W, Calls Tryz.prog 21 #[.string ⟨t.text.toArray⟩] W fun e w' => e = .returned (.int .i64 (kindL t.text : Nat)) ∧ Below W.heap.size W w') := KD
  have HW := Lib.hid (BW.start w tag)
  go_enter Tryz.func30, Tryz.ntmps30
  go_upto_region 2 with (fail)
  generalize ((w.alloc (.cells #[.string ⟨#[]⟩, .int .i64 0, .string ⟨#[]⟩, .slice none 0 0, .int .i64 0, .int .i64 0, .bool false, .int .u8 0, .slice none 0 0] 27)).alloc (.cells #[.string ⟨tag.toArray⟩, .int .i64 0, .string ⟨#[]⟩, .slice none 0 0, .int .i64 0, .int .i64 0, .bool false, .int .u8 0, .slice none 0 0] 27)) = W2 at *
  obtain ⟨x0, x1, x2, x3, x4, x5, x6, x7, x8⟩ := cells9 HW.out.hx
  obtain ⟨z0, z1, z2, z3, z4, z5, z6, z7, z8⟩ := cells9 HW.out.hr
  have ur := fun j => Joins.unfrozen_of_block HW.out.hr j
  have ux := fun j => Joins.unfrozen_of_block HW.out.hx j
  have k0 : W2.cell? ⟨b, off, none⟩ = some (.int .i64 (t.kind : Int)) := (HK.out W2 HW.out.hb 0 (by simp)).1
  have k1 : W2.cell? ⟨b, off + 1, none⟩ = some (.string ⟨t.text.toArray⟩) := (HK.out W2 HW.out.hb 0 (by simp)).2.1
  generalize kindL t.text = kd at *
  generalize t.kind = tk at *
  go_wp2_with fail
  refine (KD.out _).mono ?_
  rintro e w3 ⟨rfl, hb3⟩
  have HW3 := Lib.hid (HW.out.below hb3)
  clear x0 x1 x2 x3 x4 x5 x6 x7 x8 z0 z1 z2 z3 z4 z5 z6 z7 z8 ur ux
  clear KD HW hb3 k0 k1
  obtain ⟨x0, x1, x2, x3, x4, x5, x6, x7, x8⟩ := cells9 HW3.out.hx
  obtain ⟨z0, z1, z2, z3, z4, z5, z6, z7, z8⟩ := cells9 HW3.out.hr
  have ur := fun j => Joins.unfrozen_of_block HW3.out.hr j
  have ux := fun j => Joins.unfrozen_of_block HW3.out.hx j
  have HW4 := Lib.hid (HW3.out.set1 (.int .i64 (kd : Int)))
  go_upto_region 5 with (fail)
  clear x0 x1 x2 x3 x4 x5 x6 x7 x8 z0 z1 z2 z3 z4 z5 z6 z7 z8 ur ux
  clear HW3
  generalize w3.setCell ⟨w.heap.size + 1, 1, none⟩ (.int .i64 (kd : Int)) = w4 at *
  obtain ⟨x0, x1, x2, x3, x4, x5, x6, x7, x8⟩ := cells9 HW4.out.hx
  obtain ⟨z0, z1, z2, z3, z4, z5, z6, z7, z8⟩ := cells9 HW4.out.hr
  have ur := fun j => Joins.unfrozen_of_block HW4.out.hr j
  have ux := fun j => Joins.unfrozen_of_block HW4.out.hx j
  go_wp2_with fail
  refine (KK.out _ HW4.out.hb).mono ?_
  rintro e w5 ⟨rfl, hb5⟩
  have HW5 := Lib.hid (HW4.out.below hb5)
  clear x0 x1 x2 x3 x4 x5 x6 x7 x8 z0 z1 z2 z3 z4 z5 z6 z7 z8 ur ux
  clear HW4 hb5 KK HTX
  obtain ⟨x0, x1, x2, x3, x4, x5, x6, x7, x8⟩ := cells9 HW5.out.hx
  obtain ⟨z0, z1, z2, z3, z4, z5, z6, z7, z8⟩ := cells9 HW5.out.hr
  have ur := fun j => Joins.unfrozen_of_block HW5.out.hr j
  have ux := fun j => Joins.unfrozen_of_block HW5.out.hx j
  generalize letN s.kind = y at *
  have p0 : w5.cell? ⟨b, off + 6, none⟩ = some (.int .i64 (m.kind : Int)) := (HK.out w5 HW5.out.hb 2 (by simp)).1
  have p1 : w5.cell? ⟨b, off + 7, none⟩ = some (.string ⟨m.text.toArray⟩) := (HK.out w5 HW5.out.hb 2 (by simp)).2.1
  have p2 : w5.cell? ⟨b, off + 8, none⟩ = some (.int .i64 (m.at_ : Int)) := (HK.out w5 HW5.out.hb 2 (by simp)).2.2
  have p3 : w5.cell? ⟨b, off + 6 + 1, none⟩ = some (.string ⟨m.text.toArray⟩) := p1
  have p4 : w5.cell? ⟨b, off + 6 + 2, none⟩ = some (.int .i64 (m.at_ : Int)) := p2
  have HW6 := Lib.hid (HW5.out.set2 (.string ⟨m.text.toArray⟩))
  go_upto_region 12 with (fail)
  clear x0 x1 x2 x3 x4 x5 x6 x7 x8 z0 z1 z2 z3 z4 z5 z6 z7 z8 ur ux
  clear HW5 p0 p1 p2 p3 p4
  generalize w5.setCell ⟨w.heap.size + 1, 2, none⟩ (.string ⟨m.text.toArray⟩) = w6 at *
  obtain ⟨x0, x1, x2, x3, x4, x5, x6, x7, x8⟩ := cells9 HW6.out.hx
  obtain ⟨z0, z1, z2, z3, z4, z5, z6, z7, z8⟩ := cells9 HW6.out.hr
  have ur := fun j => Joins.unfrozen_of_block HW6.out.hr j
  have ux := fun j => Joins.unfrozen_of_block HW6.out.hx j
  have p0 : w6.cell? ⟨b, off + 6, none⟩ = some (.int .i64 (m.kind : Int)) := (HK.out w6 HW6.out.hb 2 (by simp)).1
  have p1 : w6.cell? ⟨b, off + 7, none⟩ = some (.string ⟨m.text.toArray⟩) := (HK.out w6 HW6.out.hb 2 (by simp)).2.1
  have p2 : w6.cell? ⟨b, off + 8, none⟩ = some (.int .i64 (m.at_ : Int)) := (HK.out w6 HW6.out.hb 2 (by simp)).2.2
  have p3 : w6.cell? ⟨b, off + 6 + 1, none⟩ = some (.string ⟨m.text.toArray⟩) := p1
  have p4 : w6.cell? ⟨b, off + 6 + 2, none⟩ = some (.int .i64 (m.at_ : Int)) := p2
  go_wp2_with fail
  refine (MB.out _).mono ?_
  rintro e w7 ⟨rfl, hb7⟩
  have HW7 := Lib.hid (HW6.out.below hb7)
  clear x0 x1 x2 x3 x4 x5 x6 x7 x8 z0 z1 z2 z3 z4 z5 z6 z7 z8 ur ux
  clear HW6 hb7 MB p0 p1 p2 p3 p4
  obtain ⟨x0, x1, x2, x3, x4, x5, x6, x7, x8⟩ := cells9 HW7.out.hx
  obtain ⟨z0, z1, z2, z3, z4, z5, z6, z7, z8⟩ := cells9 HW7.out.hr
  have ur := fun j => Joins.unfrozen_of_block HW7.out.hr j
  have ux := fun j => Joins.unfrozen_of_block HW7.out.hx j
  clear HK HS
  generalize letN z.kind = zk at *
  generalize mboxR m = mb at *
  subst hm
  go_wp2_with fail
  refine body_fin (q := false) HW7.out.hr ?_ ?_ ?_
  · rfl
  · rfl
  · exact .no HO.out (stC_below HW7.out.hb)

end Go.Proofs.YthfopimgdikpgaaGreatDoor

namespace Go.Proofs.YthfopimgdikpgaaGreatDoor
open Go.RowKit

theorem BPost.fin {O : Option Cmd} {w W w' : World} {q : Bool} {a0 a1 a2 a3 a4 a5 a6 a7 a8 : Value} (h : BPost O W (.returned (.tuple #[.agg #[a0, a1, a2, a3, a4, a5, a6, a7, a8], .bool q])) w') (hb : Below w.heap.size w W) (hs : w.heap.size + 1 + 1 ≤ W.heap.size) :
    BPost O w (.returned (.tuple #[.agg #[a0, a1, a2, a3, a4, a5, a6, a7, a8], .bool q])) (stC w' w.heap.size a0 a1 a2 a3 a4 a5 a6 a7 a8) := by
  obtain ⟨v, q', he, hag, hy, hn, hB⟩ := h
  injection he with he
  injection he with he
  have e0 : Value.agg #[a0, a1, a2, a3, a4, a5, a6, a7, a8] = v := by
    have := congrArg (fun a => a[0]?) he
    simpa using this
  have e1 : q = q' := by
    have := congrArg (fun a => a[1]?) he
    simpa using this
  subst e0 e1
  refine ⟨_, q, rfl, hag, fun hq => ?_, hn, stC_below (hb.trans (hB.mono hb.size))⟩
  obtain ⟨c, sv, dv, h1, h2, h3, h4, h5⟩ := hy hq
  refine ⟨c, sv, dv, h1, h2, Lib.hid ?_, fun b off s n k e => Nat.le_trans (by omega) (h4 b off s n k e), fun b off s n k e => Nat.le_trans (by omega) (h5 b off s n k e)⟩
  rw [h1] at h3 ⊢
  exact h3.out.past h4 h5 (by omega) (stC_grown _ _ _ _ _ _ _ _ _ _ _)
set_option maxRecDepth 100000 in
set_option maxHeartbeats 1000000 in
theorem body_app {t s m z : Tok} {d : List Tok} (A : Option Addr) (k : Nat) (tag : List UInt8) (hl : (t :: s :: m :: z :: d).length ≤ 10000) (hc : (t :: s :: m :: z :: d).length ≤ k) (htx : ∀ x ∈ (t :: s :: m :: z :: d), x.kind ≤ 6 ∧ x.text.length ≤ 9000) (w : World) (hS : SlAt encT 3 w A (t :: s :: m :: z :: d)) (h4 : t.kind = 4) (h : 4 < kindL t.text) (h6 : kindL t.text ≤ 6) (hs : s.kind = 1) (hm : mboxR m = true) (h5 : kindL t.text ≠ 5) (hz : z.kind = 1) :
    Calls Tryz.prog 30 #[.string ⟨tag.toArray⟩, .slice A (t :: s :: m :: z :: d).length k] w (BPost (bodyR tag (t :: s :: m :: z :: d)) w) := by
  obtain ⟨O, hO⟩ : ∃ O, bodyR tag (t :: s :: m :: z :: d) = O := ⟨_, rfl⟩
  obtain ⟨n, hn⟩ : ∃ n, (t :: s :: m :: z :: d).length = n := ⟨_, rfl⟩
  rw [hO, hn]
  have HS := Lib.hid hS
  have HTX := Lib.hid htx
  have hn0 : 0 < n := by rw [← hn]; simp
  have g0 : ((n : Int) == 0) = false := by simp; omega
  have g0' : ¬ (n : Int) = 0 := by omega
  have hn3 : 3 ≤ n := by rw [← hn]; simp
  have d3 : decide ((n : Int) < 3) = false := by simp; omega
  have d3' : decide (n < 3) = false := by simp; omega
  have s0 := fun x lo hi mx W => sliceAtRT x lo hi mx W
  obtain ⟨A4, hA4⟩ : ∃ A4, offT A k 4 = A4 := ⟨_, rfl⟩
  have hn4 : n - 4 = d.length := by rw [← hn]; simp
  have S4 : Hid (∀ W, Below w.heap.size w W → SlAt encT 3 W A4 d) := Lib.hid (fun W hW => by
    have h := slAt_drop (c := k) (lo := 4) (hS.below hW) hc (by simp)
    rw [hA4] at h
    exact h)
  have s1 : ∀ W, (Instr.slice 39 (.slice A n k) (some (.int .i64 4)) none none).run Tryz.prog W = .ok (.slice A4 d.length (k - 4)) W := fun W => by
    have h := sliceRT_l A n k 4 (by rw [← hn]; simp) W
    rw [hA4, hn4] at h
    exact h
  obtain ⟨b, off, rfl, hb0, _, _, _⟩ := tk_at HS.out (j := 0) (by simp)
  have HK : Hid (∀ W, Below w.heap.size w W → ∀ j (hj : j < (t :: s :: m :: z :: d).length), W.cell? ⟨b, off + j * 3, none⟩ = some (.int .i64 ((t :: s :: m :: z :: d)[j].kind : Int)) ∧ W.cell? ⟨b, off + j * 3 + 1, none⟩ = some (.string ⟨(t :: s :: m :: z :: d)[j].text.toArray⟩) ∧ W.cell? ⟨b, off + j * 3 + 2, none⟩ = some (.int .i64 ((t :: s :: m :: z :: d)[j].at_ : Int))) := Lib.hid (fun W hW j hj => by
    obtain ⟨b', off', he, _, h1, h2, h3⟩ := tk_at (HS.out.below hW) hj
    cases he
    exact ⟨h1, h2, h3⟩)
  have HO : Hid (O = appR { cmd0 tag with kind := kindL t.text, mbox := m.text } d) := Lib.hid (by rw [← hO, bodyR_mbox tag h4 h h6 hs, if_neg (by simp [hm]), if_neg h5]; exact if_pos hz)
  have AP := Lib.hid (fun W (hW : Below w.heap.size w W) => appended_any A4 (k - 4) { cmd0 tag with kind := kindL t.text, mbox := m.text } d rfl (by simp at hl; omega) (by simp only [List.length_cons] at hc; omega) (fun x hx => ⟨(htx x (by simp [hx])).1, Nat.le_trans (htx x (by simp [hx])).2 (by omega)⟩) W (S4.out W hW))
  have AP : Hid (∀ W, Below w.heap.size w W → Calls Tryz.prog 49 #[.agg #[.string ⟨tag.toArray⟩, .int .i64 ((kindL t.text : Nat) : Int), .string ⟨m.text.toArray⟩, .slice none 0 0, .int .i64 0, .int .i64 0, .bool false, .int .u8 0, .slice none 0 0], .slice A4 d.length (k - 4)] W (BPost (appR { cmd0 tag with kind := kindL t.text, mbox := m.text } d) W)) := AP
  have e5 : (((kindL t.text : Nat) : Int) == 5) = false := by simp; omega
  have e5' : ¬ (((kindL t.text : Nat) : Int) = 5) := by omega
  have d4 : decide ((n : Int) < 4) = false := by rw [← hn]; simp; omega
  have d4' : decide (n < 4) = false := by rw [← hn]; simp
  have f3 : (((letN z.kind).toNat : Int) != 115) = false := by rw [hz]; decide
  generalize appR { cmd0 tag with kind := kindL t.text, mbox := m.text } d = O7 at *
  clear h5 hz hn4 hA4 S4
  have e6 : decide ((((kindL t.text : Nat) : Int) ≤ 6)) = true := by simp; omega
  have e6' : decide (kindL t.text ≤ 6) = true := by simp; omega
  have f2 : (((letN s.kind).toNat : Int) != 115) = false := by rw [hs]; decide
  have hmt := (htx m (by simp)).2
  have MB := Lib.hid (fun W => rmailbox_any m (by omega) W)
  have e0 : (((kindL t.text : Nat) : Int) == 0) = false := by simp; omega
  have e4 : decide ((((kindL t.text : Nat) : Int) ≤ 4)) = false := by simp; omega
  have e4' : decide (kindL t.text ≤ 4) = false := by simp; omega
  clear h
  have KK := Lib.hid (fun W (hW : Below w.heap.size w W) => kinds_any (some ⟨b, off, none⟩) k (t :: s :: m :: z :: d) hl (fun x' hx' => (HTX.out x' hx').1) W (HS.out.below hW))
  obtain ⟨KS, hKS⟩ : ∃ KS : ByteArray, (⟨(kindsL (t :: s :: m :: z :: d)).toArray⟩ : ByteArray) = KS := ⟨_, rfl⟩
  rw [hKS, hn] at KK
  have ks0 : KS.size = n := by rw [← hKS, ← hn]; show (kindsL (t :: s :: m :: z :: d)).toArray.size = _; simp [kindsL]
  have ks1 : 1 < KS.size := by rw [ks0, ← hn]; simp
  have kb1 : KS[1]'ks1 = letN s.kind := by subst hKS; simp [ByteArray.getElem_eq_getElem_data, kindsL]
  have ks3 : 3 < KS.size := by rw [ks0, ← hn]; simp
  have kb3 : KS[3]'ks3 = letN z.kind := by subst hKS; simp [ByteArray.getElem_eq_getElem_data, kindsL]
  have hle4 : 4 ≤ n := by rw [← hn]; simp
  clear hO hS htx hc hl hn hKS hs hmt
  have f1 : ((t.kind : Int) != 4) = false := by rw [h4]; rfl
  have hlt := (HTX.out t (by simp)).2
  have KD := Lib.hid (fun W => refKind_any ⟨t.text.toArray⟩ (by show t.text.toArray.size ≤ _; simp; omega) W)
  have KD : Hid (∀ W, Calls Tryz.prog 21 #[.string ⟨t.text.toArray⟩] W fun e w' => e = .returned (.int .i64 (kindL t.text : Nat)) ∧ Below W.heap.size W w') := KD
  have HW := Lib.hid (BW.start w tag)
  go_enter Tryz.func30, Tryz.ntmps30
  go_upto_region 2 with (fail)
  generalize ((w.alloc (.cells #[.string ⟨#[]⟩, .int .i64 0, .string ⟨#[]⟩, .slice none 0 0, .int .i64 0, .int .i64 0, .bool false, .int .u8 0, .slice none 0 0] 27)).alloc (.cells #[.string ⟨tag.toArray⟩, .int .i64 0, .string ⟨#[]⟩, .slice none 0 0, .int .i64 0, .int .i64 0, .bool false, .int .u8 0, .slice none 0 0] 27)) = W2 at *
  obtain ⟨x0, x1, x2, x3, x4, x5, x6, x7, x8⟩ := cells9 HW.out.hx
  obtain ⟨z0, z1, z2, z3, z4, z5, z6, z7, z8⟩ := cells9 HW.out.hr
  have ur := fun j => Joins.unfrozen_of_block HW.out.hr j
  have ux := fun j => Joins.unfrozen_of_block HW.out.hx j
  have k0 : W2.cell? ⟨b, off, none⟩ = some (.int .i64 (t.kind : Int)) := (HK.out W2 HW.out.hb 0 (by simp)).1
  have k1 : W2.cell? ⟨b, off + 1, none⟩ = some (.string ⟨t.text.toArray⟩) := (HK.out W2 HW.out.hb 0 (by simp)).2.1
  generalize kindL t.text = kd at *
  generalize t.kind = tk at *
  go_wp2_with fail
  refine (KD.out _).mono ?_
  rintro e w3 ⟨rfl, hb3⟩
  have HW3 := Lib.hid (HW.out.below hb3)
  clear x0 x1 x2 x3 x4 x5 x6 x7 x8 z0 z1 z2 z3 z4 z5 z6 z7 z8 ur ux
  clear KD HW hb3 k0 k1
  obtain ⟨x0, x1, x2, x3, x4, x5, x6, x7, x8⟩ := cells9 HW3.out.hx
  obtain ⟨z0, z1, z2, z3, z4, z5, z6, z7, z8⟩ := cells9 HW3.out.hr
  have ur := fun j => Joins.unfrozen_of_block HW3.out.hr j
  have ux := fun j => Joins.unfrozen_of_block HW3.out.hx j
  have HW4 := Lib.hid (HW3.out.set1 (.int .i64 (kd : Int)))
  go_upto_region 5 with (fail)
  clear x0 x1 x2 x3 x4 x5 x6 x7 x8 z0 z1 z2 z3 z4 z5 z6 z7 z8 ur ux
  clear HW3
  generalize w3.setCell ⟨w.heap.size + 1, 1, none⟩ (.int .i64 (kd : Int)) = w4 at *
  obtain ⟨x0, x1, x2, x3, x4, x5, x6, x7, x8⟩ := cells9 HW4.out.hx
  obtain ⟨z0, z1, z2, z3, z4, z5, z6, z7, z8⟩ := cells9 HW4.out.hr
  have ur := fun j => Joins.unfrozen_of_block HW4.out.hr j
  have ux := fun j => Joins.unfrozen_of_block HW4.out.hx j
  go_wp2_with fail
  refine (KK.out _ HW4.out.hb).mono ?_
  rintro e w5 ⟨rfl, hb5⟩
  have HW5 := Lib.hid (HW4.out.below hb5)
  clear x0 x1 x2 x3 x4 x5 x6 x7 x8 z0 z1 z2 z3 z4 z5 z6 z7 z8 ur ux
  clear HW4 hb5 KK HTX
  obtain ⟨x0, x1, x2, x3, x4, x5, x6, x7, x8⟩ := cells9 HW5.out.hx
  obtain ⟨z0, z1, z2, z3, z4, z5, z6, z7, z8⟩ := cells9 HW5.out.hr
  have ur := fun j => Joins.unfrozen_of_block HW5.out.hr j
  have ux := fun j => Joins.unfrozen_of_block HW5.out.hx j
  generalize letN s.kind = y at *
  have p0 : w5.cell? ⟨b, off + 6, none⟩ = some (.int .i64 (m.kind : Int)) := (HK.out w5 HW5.out.hb 2 (by simp)).1
  have p1 : w5.cell? ⟨b, off + 7, none⟩ = some (.string ⟨m.text.toArray⟩) := (HK.out w5 HW5.out.hb 2 (by simp)).2.1
  have p2 : w5.cell? ⟨b, off + 8, none⟩ = some (.int .i64 (m.at_ : Int)) := (HK.out w5 HW5.out.hb 2 (by simp)).2.2
  have p3 : w5.cell? ⟨b, off + 6 + 1, none⟩ = some (.string ⟨m.text.toArray⟩) := p1
  have p4 : w5.cell? ⟨b, off + 6 + 2, none⟩ = some (.int .i64 (m.at_ : Int)) := p2
  have HW6 := Lib.hid (HW5.out.set2 (.string ⟨m.text.toArray⟩))
  go_upto_region 12 with (fail)
  clear x0 x1 x2 x3 x4 x5 x6 x7 x8 z0 z1 z2 z3 z4 z5 z6 z7 z8 ur ux
  clear HW5 p0 p1 p2 p3 p4
  generalize w5.setCell ⟨w.heap.size + 1, 2, none⟩ (.string ⟨m.text.toArray⟩) = w6 at *
  obtain ⟨x0, x1, x2, x3, x4, x5, x6, x7, x8⟩ := cells9 HW6.out.hx
  obtain ⟨z0, z1, z2, z3, z4, z5, z6, z7, z8⟩ := cells9 HW6.out.hr
  have ur := fun j => Joins.unfrozen_of_block HW6.out.hr j
  have ux := fun j => Joins.unfrozen_of_block HW6.out.hx j
  have p0 : w6.cell? ⟨b, off + 6, none⟩ = some (.int .i64 (m.kind : Int)) := (HK.out w6 HW6.out.hb 2 (by simp)).1
  have p1 : w6.cell? ⟨b, off + 7, none⟩ = some (.string ⟨m.text.toArray⟩) := (HK.out w6 HW6.out.hb 2 (by simp)).2.1
  have p2 : w6.cell? ⟨b, off + 8, none⟩ = some (.int .i64 (m.at_ : Int)) := (HK.out w6 HW6.out.hb 2 (by simp)).2.2
  have p3 : w6.cell? ⟨b, off + 6 + 1, none⟩ = some (.string ⟨m.text.toArray⟩) := p1
  have p4 : w6.cell? ⟨b, off + 6 + 2, none⟩ = some (.int .i64 (m.at_ : Int)) := p2
  go_wp2_with fail
  refine (MB.out _).mono ?_
  rintro e w7 ⟨rfl, hb7⟩
  have HW7 := Lib.hid (HW6.out.below hb7)
  clear x0 x1 x2 x3 x4 x5 x6 x7 x8 z0 z1 z2 z3 z4 z5 z6 z7 z8 ur ux
  clear HW6 hb7 MB p0 p1 p2 p3 p4
  obtain ⟨x0, x1, x2, x3, x4, x5, x6, x7, x8⟩ := cells9 HW7.out.hx
  obtain ⟨z0, z1, z2, z3, z4, z5, z6, z7, z8⟩ := cells9 HW7.out.hr
  have ur := fun j => Joins.unfrozen_of_block HW7.out.hr j
  have ux := fun j => Joins.unfrozen_of_block HW7.out.hx j
  clear HK HS
  generalize letN z.kind = zk at *
  generalize mboxR m = mb at *
  subst hm
  have AQ : Hid (∀ W, Below w7.heap.size w7 W → Calls Tryz.prog 49 #[.agg #[.string ⟨tag.toArray⟩, .int .i64 (kd : Int), .string ⟨m.text.toArray⟩, .slice none 0 0, .int .i64 0, .int .i64 0, .bool false, .int .u8 0, .slice none 0 0], .slice A4 d.length (k - 4)] W fun e w' => ∃ (q : Bool) (s0 : ByteArray) (i1 : Int) (s2 : ByteArray) (A3 : Option Addr) (n3 k3 : Nat) (i4 i5 : Int) (q6 : Bool) (i7 : Int) (A8 : Option Addr) (n8 k8 : Nat), e = .returned (.tuple #[.agg #[.string s0, .int .i64 i1, .string s2, .slice A3 n3 k3, .int .i64 i4, .int .i64 i5, .bool q6, .int .u8 i7, .slice A8 n8 k8], .bool q]) ∧ BW w w' (.string ⟨tag.toArray⟩) (.int .i64 (kd : Int)) (.string ⟨m.text.toArray⟩) (.slice none 0 0) (.int .i64 0) (.int .i64 0) (.bool false) (.int .u8 0) (.slice none 0 0) ∧ BPost O w (.returned (.tuple #[.agg #[.string s0, .int .i64 i1, .string s2, .slice A3 n3 k3, .int .i64 i4, .int .i64 i5, .bool q6, .int .u8 i7, .slice A8 n8 k8], .bool q])) (stC w' w.heap.size (.string s0) (.int .i64 i1) (.string s2) (.slice A3 n3 k3) (.int .i64 i4) (.int .i64 i5) (.bool q6) (.int .u8 i7) (.slice A8 n8 k8))) := Lib.hid (fun W hW => by
    have hw := HW7.out.below hW
    refine (AP.out W hw.hb).mono ?_
    rintro e w' h
    obtain ⟨v, q, he, ⟨s0, i1, s2, A3, n3, k3, i4, i5, q6, i7, A8, n8, k8, hv⟩, _⟩ := id h
    subst he
    rw [hv] at h ⊢
    obtain ⟨_, _, _, _, _, _, hB⟩ := id h
    exact ⟨q, _, _, _, _, _, _, _, _, _, _, _, _, _, rfl, hw.below hB, by rw [HO.out]; exact h.fin hw.hb hw.hs⟩)
  clear AP
  go_wp2_with fail
  go_region_with (first
    | (go_at_call 49; refine (AQ.out _ (by repeat (first | assumption | exact Below.refl _ _ | refine belDrawN ?_ _ | refine belDraw ?_))).mono ?_; rintro e w9 ⟨q, s0, i1, s2, A3, n3, k3, i4, i5, q6, i7, A8, n8, k8, rfl, HW9, hp⟩; obtain ⟨y0, y1, y2, y3, y4, y5, y6, y7, y8⟩ := cells9 HW9.hr; have uy := fun j => Joins.unfrozen_of_block HW9.hr j))
  all_goals
    go_wp2_with fail
    first
    | (refine body_fin (q := q) HW9.hr ?_ ?_ ?_
       · rfl
       · rfl
       · exact hp)
    | (refine body_finD (q := q) HW9.hr ?_ ?_ ?_
       · rfl
       · rfl
       · exact .drew hp)

end Go.Proofs.YthfopimgdikpgaaGreatDoor
