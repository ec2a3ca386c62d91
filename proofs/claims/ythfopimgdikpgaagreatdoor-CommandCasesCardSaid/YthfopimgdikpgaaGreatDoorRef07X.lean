/- The reference of layer 7: body, FETCH and STORE, the set. -/
import Derived.Test.YthfopimgdikpgaaGreatDoorRef07R
import Derived.Test.YthfopimgdikpgaaGreatDoorRef02P
namespace Go.Proofs.YthfopimgdikpgaaGreatDoor
open Go.RowKit

theorem bodyR_set3 (tag : List UInt8) {t s m : Tok} {q : List Tok} (h4 : t.kind = 4) (h : 6 < kindL t.text) (hs : s.kind = 1) (hm : m.kind = 4) (hp : (parseP m.text).2 = true) (hq : q.length < 2) : bodyR tag (t :: s :: m :: q) = none := by
  rw [bodyR_set tag h4 h hs, if_neg (by simp [hm, hp])]
  rcases q with _ | ⟨z, _ | ⟨y, d⟩⟩
  · rfl
  · simp
  · simp at hq; omega
theorem bodyR_set4 (tag : List UInt8) {t s m z y : Tok} {d : List Tok} (h4 : t.kind = 4) (h : 6 < kindL t.text) (hs : s.kind = 1) (hm : m.kind = 4) (hp : (parseP m.text).2 = true) (hz : z.kind ≠ 1) : bodyR tag (t :: s :: m :: z :: y :: d) = none := by
  rw [bodyR_set tag h4 h hs, if_neg (by simp [hm, hp])]
  exact if_neg (fun e => hz e.1)
set_option maxRecDepth 100000 in
set_option maxHeartbeats 1000000 in
theorem body_set1 {t s m : Tok} {q : List Tok} (A : Option Addr) (k : Nat) (tag : List UInt8) (hl : (t :: s :: m :: q).length ≤ 10000) (htx : ∀ x ∈ (t :: s :: m :: q), x.kind ≤ 6 ∧ x.text.length ≤ 9000) (w : World) (hS : SlAt encT 3 w A (t :: s :: m :: q)) (h4 : t.kind = 4) (h : 6 < kindL t.text) (hs : s.kind = 1) (hm : m.kind ≠ 4) :
    Calls Tryz.prog 30 #[.string ⟨tag.toArray⟩, .slice A (t :: s :: m :: q).length k] w (BPost (bodyR tag (t :: s :: m :: q)) w) := by
  obtain ⟨O, hO⟩ : ∃ O, bodyR tag (t :: s :: m :: q) = O := ⟨_, rfl⟩
  obtain ⟨n, hn⟩ : ∃ n, (t :: s :: m :: q).length = n := ⟨_, rfl⟩
  rw [hO, hn]
  have HS := Lib.hid hS
  have HTX := Lib.hid htx
  have hn0 : 0 < n := by rw [← hn]; simp
  have g0 : ((n : Int) == 0) = false := by simp; omega
  have g0' : ¬ (n : Int) = 0 := by omega
  have hn3 : 3 ≤ n := by rw [← hn]; simp
  have d3 : decide ((n : Int) < 3) = false := by simp; omega
  have d3' : decide (n < 3) = false := by simp; omega
  obtain ⟨b, off, rfl, hb0, _, _, _⟩ := tk_at HS.out (j := 0) (by simp)
  have HK : Hid (∀ W, Below w.heap.size w W → ∀ j (hj : j < (t :: s :: m :: q).length), W.cell? ⟨b, off + j * 3, none⟩ = some (.int .i64 ((t :: s :: m :: q)[j].kind : Int)) ∧ W.cell? ⟨b, off + j * 3 + 1, none⟩ = some (.string ⟨(t :: s :: m :: q)[j].text.toArray⟩) ∧ W.cell? ⟨b, off + j * 3 + 2, none⟩ = some (.int .i64 ((t :: s :: m :: q)[j].at_ : Int))) := Lib.hid (fun W hW j hj => by
    obtain ⟨b', off', he, _, h1, h2, h3⟩ := tk_at (HS.out.below hW) hj
    cases he
    exact ⟨h1, h2, h3⟩)
  have HO : Hid (O = none) := Lib.hid (by rw [← hO]; rw [bodyR_set tag h4 h hs, if_pos (.inl hm)])
  have m4 : ((m.kind : Int) != 4) = true := by simp; omega
  have e6 : decide ((((kindL t.text : Nat) : Int) ≤ 6)) = false := by simp; omega
  have e6' : decide (kindL t.text ≤ 6) = false := by simp; omega
  have f2 : (((letN s.kind).toNat : Int) != 115) = false := by rw [hs]; decide
  have hmt := (htx m (by simp)).2
  have R2 := Lib.hid (fun W => refParse2_any m.text (by omega) W)
  have e0 : (((kindL t.text : Nat) : Int) == 0) = false := by simp; omega
  have e4 : decide ((((kindL t.text : Nat) : Int) ≤ 4)) = false := by simp; omega
  have e4' : decide (kindL t.text ≤ 4) = false := by simp; omega
  clear h
  have KK := Lib.hid (fun W (hW : Below w.heap.size w W) => kinds_any (some ⟨b, off, none⟩) k (t :: s :: m :: q) hl (fun x' hx' => (HTX.out x' hx').1) W (HS.out.below hW))
  obtain ⟨KS, hKS⟩ : ∃ KS : ByteArray, (⟨(kindsL (t :: s :: m :: q)).toArray⟩ : ByteArray) = KS := ⟨_, rfl⟩
  rw [hKS, hn] at KK
  have ks0 : KS.size = n := by rw [← hKS, ← hn]; show (kindsL (t :: s :: m :: q)).toArray.size = _; simp [kindsL]
  have ks1 : 1 < KS.size := by rw [ks0, ← hn]; simp
  have kb1 : KS[1]'ks1 = letN s.kind := by subst hKS; simp [ByteArray.getElem_eq_getElem_data, kindsL]
  clear hO hS htx hl hn hKS hs hmt
  have f1 : ((t.kind : Int) != 4) = false := by rw [h4]; rfl
  have hlt := (HTX.out t (by simp)).2
  have KD := Lib.hid (fun W => refKind_any ⟨t.text.toArray⟩ (by show t.text.toArray.size ≤ _; simp; omega) W)
  have KD : Hid (∀ W, Calls Tryz.prog 21 #[.string ⟨t.text.toArray⟩] W fun e w' => e = .returned (.int .i64 (kindL t.text : Nat)) ∧ Below W.heap.size W w') := KD
  have HW := Lib.hid (BW.start w tag)
  go_enter Tryz.func30, Tryz.ntmps30
  go_upto_region 2 with (fail)
  generalize ((w.alloc (.cells #[.string ⟨#[]⟩, .int .i64 0, .string ⟨#[]⟩, .slice none 0 0, .int .i64 0, .int .i64 0, .bool false, .int .u8 0, .slice none 0 0] 27)).alloc (.cells #[.string ⟨tag.toArray⟩, .int .i64 0, .string ⟨#[]⟩, .slice none 0 0, .int .i64 0, .int .i64 0, .bool false, .int .u8 0, .slice none 0 0] 27)) = W2 at *
  obtain ⟨x0, x1, x2, x3, x4, x5, x6, x7, x8⟩ := cells9 HW.out.hx
  obtain ⟨z0, z1, z2, z3, z4, z5, z6, z7, z8⟩ := cells9 HW.out.hr
  have ur := fun j => Joins.unfrozen_of_block HW.out.hr j
  have ux := fun j => Joins.unfrozen_of_block HW.out.hx j
  have k0 : W2.cell? ⟨b, off, none⟩ = some (.int .i64 (t.kind : Int)) := (HK.out W2 HW.out.hb 0 (by simp)).1
  have k1 : W2.cell? ⟨b, off + 1, none⟩ = some (.string ⟨t.text.toArray⟩) := (HK.out W2 HW.out.hb 0 (by simp)).2.1
  generalize kindL t.text = kd at *
  generalize t.kind = tk at *
  go_wp2_with fail
  refine (KD.out _).mono ?_
  rintro e w3 ⟨rfl, hb3⟩
  have HW3 := Lib.hid (HW.out.below hb3)
  clear x0 x1 x2 x3 x4 x5 x6 x7 x8 z0 z1 z2 z3 z4 z5 z6 z7 z8 ur ux
  clear KD HW hb3 k0 k1
  obtain ⟨x0, x1, x2, x3, x4, x5, x6, x7, x8⟩ := cells9 HW3.out.hx
  obtain ⟨z0, z1, z2, z3, z4, z5, z6, z7, z8⟩ := cells9 HW3.out.hr
  have ur := fun j => Joins.unfrozen_of_block HW3.out.hr j
  have ux := fun j => Joins.unfrozen_of_block HW3.out.hx j
  have HW4 := Lib.hid (HW3.out.set1 (.int .i64 (kd : Int)))
  go_upto_region 5 with (fail)
  clear x0 x1 x2 x3 x4 x5 x6 x7 x8 z0 z1 z2 z3 z4 z5 z6 z7 z8 ur ux
  clear HW3
  generalize w3.setCell ⟨w.heap.size + 1, 1, none⟩ (.int .i64 (kd : Int)) = w4 at *
  obtain ⟨x0, x1, x2, x3, x4, x5, x6, x7, x8⟩ := cells9 HW4.out.hx
  obtain ⟨z0, z1, z2, z3, z4, z5, z6, z7, z8⟩ := cells9 HW4.out.hr
  have ur := fun j => Joins.unfrozen_of_block HW4.out.hr j
  have ux := fun j => Joins.unfrozen_of_block HW4.out.hx j
  go_wp2_with fail
  refine (KK.out _ HW4.out.hb).mono ?_
  rintro e w5 ⟨rfl, hb5⟩
  have HW5 := Lib.hid (HW4.out.below hb5)
  clear x0 x1 x2 x3 x4 x5 x6 x7 x8 z0 z1 z2 z3 z4 z5 z6 z7 z8 ur ux
  clear HW4 hb5 KK HTX
  obtain ⟨x0, x1, x2, x3, x4, x5, x6, x7, x8⟩ := cells9 HW5.out.hx
  obtain ⟨z0, z1, z2, z3, z4, z5, z6, z7, z8⟩ := cells9 HW5.out.hr
  have ur := fun j => Joins.unfrozen_of_block HW5.out.hr j
  have ux := fun j => Joins.unfrozen_of_block HW5.out.hx j
  generalize letN s.kind = y at *
  have p0 : w5.cell? ⟨b, off + 6, none⟩ = some (.int .i64 (m.kind : Int)) := (HK.out w5 HW5.out.hb 2 (by simp)).1
  have p1 : w5.cell? ⟨b, off + 7, none⟩ = some (.string ⟨m.text.toArray⟩) := (HK.out w5 HW5.out.hb 2 (by simp)).2.1
  have p2 : w5.cell? ⟨b, off + 8, none⟩ = some (.int .i64 (m.at_ : Int)) := (HK.out w5 HW5.out.hb 2 (by simp)).2.2
  have p3 : w5.cell? ⟨b, off + 6 + 1, none⟩ = some (.string ⟨m.text.toArray⟩) := p1
  have p4 : w5.cell? ⟨b, off + 6 + 2, none⟩ = some (.int .i64 (m.at_ : Int)) := p2
  generalize parseP m.text = pp at *
  go_wp2_with fail
  refine (R2.out _).mono ?_
  rintro e w6 ⟨v, rfl, hO, hb6⟩
  have HW6 := Lib.hid (HW5.out.below hb6)
  have hnx : ∀ b off s n c, v = .slice (some ⟨b, off, s⟩) n c → w.heap.size + 2 ≤ b := fun b off s n c e => by
    have := (hO.lt b (by rw [e]; rfl)).1
    have := HW5.out.hs
    omega
  obtain ⟨A', c', rfl⟩ := own_any hO
  have hle : pp.1.length ≤ c' := by
    rcases hO.2 with ⟨h1, h0⟩ | ⟨g, cap, cur, h1, _, _, hn, _⟩
    · omega
    · injection h1 with _ _ h3
      omega
  have HV := Lib.hid (SlAt.of_own encR_len hO)
  have HNX : Hid (∀ b off s, A' = some ⟨b, off, s⟩ → w.heap.size + 2 ≤ b) := Lib.hid (fun b off s e => hnx b off s _ _ (by rw [e]))
  have HLE := Lib.hid hle
  clear x0 x1 x2 x3 x4 x5 x6 x7 x8 z0 z1 z2 z3 z4 z5 z6 z7 z8 ur ux
  clear HW5 hb6 R2 hO hnx hle p0 p1 p2 p3 p4
  obtain ⟨x0, x1, x2, x3, x4, x5, x6, x7, x8⟩ := cells9 HW6.out.hx
  obtain ⟨z0, z1, z2, z3, z4, z5, z6, z7, z8⟩ := cells9 HW6.out.hr
  have ur := fun j => Joins.unfrozen_of_block HW6.out.hr j
  have ux := fun j => Joins.unfrozen_of_block HW6.out.hx j
  have p0 : w6.cell? ⟨b, off + 6, none⟩ = some (.int .i64 (m.kind : Int)) := (HK.out w6 HW6.out.hb 2 (by simp)).1
  have p1 : w6.cell? ⟨b, off + 7, none⟩ = some (.string ⟨m.text.toArray⟩) := (HK.out w6 HW6.out.hb 2 (by simp)).2.1
  have p2 : w6.cell? ⟨b, off + 8, none⟩ = some (.int .i64 (m.at_ : Int)) := (HK.out w6 HW6.out.hb 2 (by simp)).2.2
  have p3 : w6.cell? ⟨b, off + 6 + 1, none⟩ = some (.string ⟨m.text.toArray⟩) := p1
  have p4 : w6.cell? ⟨b, off + 6 + 2, none⟩ = some (.int .i64 (m.at_ : Int)) := p2
  clear HK HS HV HNX HLE hm
  generalize m.kind = mk at *
  go_wp2_with fail
  refine body_fin (q := false) HW6.out.hr ?_ ?_ ?_
  · rfl
  · rfl
  · exact .no HO.out (stC_below HW6.out.hb)

set_option maxRecDepth 100000 in
set_option maxHeartbeats 1000000 in
theorem body_set2 {t s m : Tok} {q : List Tok} (A : Option Addr) (k : Nat) (tag : List UInt8) (hl : (t :: s :: m :: q).length ≤ 10000) (htx : ∀ x ∈ (t :: s :: m :: q), x.kind ≤ 6 ∧ x.text.length ≤ 9000) (w : World) (hS : SlAt encT 3 w A (t :: s :: m :: q)) (h4 : t.kind = 4) (h : 6 < kindL t.text) (hs : s.kind = 1) (hm : m.kind = 4) (hp : (parseP m.text).2 = false) :
    Calls Tryz.prog 30 #[.string ⟨tag.toArray⟩, .slice A (t :: s :: m :: q).length k] w (BPost (bodyR tag (t :: s :: m :: q)) w) := by
  obtain ⟨O, hO⟩ : ∃ O, bodyR tag (t :: s :: m :: q) = O := ⟨_, rfl⟩
  obtain ⟨n, hn⟩ : ∃ n, (t :: s :: m :: q).length = n := ⟨_, rfl⟩
  rw [hO, hn]
  have HS := Lib.hid hS
  have HTX := Lib.hid htx
  have hn0 : 0 < n := by rw [← hn]; simp
  have g0 : ((n : Int) == 0) = false := by simp; omega
  have g0' : ¬ (n : Int) = 0 := by omega
  have hn3 : 3 ≤ n := by rw [← hn]; simp
  have d3 : decide ((n : Int) < 3) = false := by simp; omega
  have d3' : decide (n < 3) = false := by simp; omega
  obtain ⟨b, off, rfl, hb0, _, _, _⟩ := tk_at HS.out (j := 0) (by simp)
  have HK : Hid (∀ W, Below w.heap.size w W → ∀ j (hj : j < (t :: s :: m :: q).length), W.cell? ⟨b, off + j * 3, none⟩ = some (.int .i64 ((t :: s :: m :: q)[j].kind : Int)) ∧ W.cell? ⟨b, off + j * 3 + 1, none⟩ = some (.string ⟨(t :: s :: m :: q)[j].text.toArray⟩) ∧ W.cell? ⟨b, off + j * 3 + 2, none⟩ = some (.int .i64 ((t :: s :: m :: q)[j].at_ : Int))) := Lib.hid (fun W hW j hj => by
    obtain ⟨b', off', he, _, h1, h2, h3⟩ := tk_at (HS.out.below hW) hj
    cases he
    exact ⟨h1, h2, h3⟩)
  have HO : Hid (O = none) := Lib.hid (by rw [← hO]; rw [bodyR_set tag h4 h hs, if_pos (.inr hp)])
  have m4 : ((m.kind : Int) != 4) = false := by rw [hm]; rfl
  have e6 : decide ((((kindL t.text : Nat) : Int) ≤ 6)) = false := by simp; omega
  have e6' : decide (kindL t.text ≤ 6) = false := by simp; omega
  have f2 : (((letN s.kind).toNat : Int) != 115) = false := by rw [hs]; decide
  have hmt := (htx m (by simp)).2
  have R2 := Lib.hid (fun W => refParse2_any m.text (by omega) W)
  have e0 : (((kindL t.text : Nat) : Int) == 0) = false := by simp; omega
  have e4 : decide ((((kindL t.text : Nat) : Int) ≤ 4)) = false := by simp; omega
  have e4' : decide (kindL t.text ≤ 4) = false := by simp; omega
  clear h
  have KK := Lib.hid (fun W (hW : Below w.heap.size w W) => kinds_any (some ⟨b, off, none⟩) k (t :: s :: m :: q) hl (fun x' hx' => (HTX.out x' hx').1) W (HS.out.below hW))
  obtain ⟨KS, hKS⟩ : ∃ KS : ByteArray, (⟨(kindsL (t :: s :: m :: q)).toArray⟩ : ByteArray) = KS := ⟨_, rfl⟩
  rw [hKS, hn] at KK
  have ks0 : KS.size = n := by rw [← hKS, ← hn]; show (kindsL (t :: s :: m :: q)).toArray.size = _; simp [kindsL]
  have ks1 : 1 < KS.size := by rw [ks0, ← hn]; simp
  have kb1 : KS[1]'ks1 = letN s.kind := by subst hKS; simp [ByteArray.getElem_eq_getElem_data, kindsL]
  clear hO hS htx hl hn hKS hs hmt
  have f1 : ((t.kind : Int) != 4) = false := by rw [h4]; rfl
  have hlt := (HTX.out t (by simp)).2
  have KD := Lib.hid (fun W => refKind_any ⟨t.text.toArray⟩ (by show t.text.toArray.size ≤ _; simp; omega) W)
  have KD : Hid (∀ W, Calls Tryz.prog 21 #[.string ⟨t.text.toArray⟩] W fun e w' => e = .returned (.int .i64 (kindL t.text : Nat)) ∧ Below W.heap.size W w') := KD
  have HW := Lib.hid (BW.start w tag)
  go_enter Tryz.func30, Tryz.ntmps30
  go_upto_region 2 with (fail)
  generalize ((w.alloc (.cells #[.string ⟨#[]⟩, .int .i64 0, .string ⟨#[]⟩, .slice none 0 0, .int .i64 0, .int .i64 0, .bool false, .int .u8 0, .slice none 0 0] 27)).alloc (.cells #[.string ⟨tag.toArray⟩, .int .i64 0, .string ⟨#[]⟩, .slice none 0 0, .int .i64 0, .int .i64 0, .bool false, .int .u8 0, .slice none 0 0] 27)) = W2 at *
  obtain ⟨x0, x1, x2, x3, x4, x5, x6, x7, x8⟩ := cells9 HW.out.hx
  obtain ⟨z0, z1, z2, z3, z4, z5, z6, z7, z8⟩ := cells9 HW.out.hr
  have ur := fun j => Joins.unfrozen_of_block HW.out.hr j
  have ux := fun j => Joins.unfrozen_of_block HW.out.hx j
  have k0 : W2.cell? ⟨b, off, none⟩ = some (.int .i64 (t.kind : Int)) := (HK.out W2 HW.out.hb 0 (by simp)).1
  have k1 : W2.cell? ⟨b, off + 1, none⟩ = some (.string ⟨t.text.toArray⟩) := (HK.out W2 HW.out.hb 0 (by simp)).2.1
  generalize kindL t.text = kd at *
  generalize t.kind = tk at *
  go_wp2_with fail
  refine (KD.out _).mono ?_
  rintro e w3 ⟨rfl, hb3⟩
  have HW3 := Lib.hid (HW.out.below hb3)
  clear x0 x1 x2 x3 x4 x5 x6 x7 x8 z0 z1 z2 z3 z4 z5 z6 z7 z8 ur ux
  clear KD HW hb3 k0 k1
  obtain ⟨x0, x1, x2, x3, x4, x5, x6, x7, x8⟩ := cells9 HW3.out.hx
  obtain ⟨z0, z1, z2, z3, z4, z5, z6, z7, z8⟩ := cells9 HW3.out.hr
  have ur := fun j => Joins.unfrozen_of_block HW3.out.hr j
  have ux := fun j => Joins.unfrozen_of_block HW3.out.hx j
  have HW4 := Lib.hid (HW3.out.set1 (.int .i64 (kd : Int)))
  go_upto_region 5 with (fail)
  clear x0 x1 x2 x3 x4 x5 x6 x7 x8 z0 z1 z2 z3 z4 z5 z6 z7 z8 ur ux
  clear HW3
  generalize w3.setCell ⟨w.heap.size + 1, 1, none⟩ (.int .i64 (kd : Int)) = w4 at *
  obtain ⟨x0, x1, x2, x3, x4, x5, x6, x7, x8⟩ := cells9 HW4.out.hx
  obtain ⟨z0, z1, z2, z3, z4, z5, z6, z7, z8⟩ := cells9 HW4.out.hr
  have ur := fun j => Joins.unfrozen_of_block HW4.out.hr j
  have ux := fun j => Joins.unfrozen_of_block HW4.out.hx j
  go_wp2_with fail
  refine (KK.out _ HW4.out.hb).mono ?_
  rintro e w5 ⟨rfl, hb5⟩
  have HW5 := Lib.hid (HW4.out.below hb5)
  clear x0 x1 x2 x3 x4 x5 x6 x7 x8 z0 z1 z2 z3 z4 z5 z6 z7 z8 ur ux
  clear HW4 hb5 KK HTX
  obtain ⟨x0, x1, x2, x3, x4, x5, x6, x7, x8⟩ := cells9 HW5.out.hx
  obtain ⟨z0, z1, z2, z3, z4, z5, z6, z7, z8⟩ := cells9 HW5.out.hr
  have ur := fun j => Joins.unfrozen_of_block HW5.out.hr j
  have ux := fun j => Joins.unfrozen_of_block HW5.out.hx j
  generalize letN s.kind = y at *
  have p0 : w5.cell? ⟨b, off + 6, none⟩ = some (.int .i64 (m.kind : Int)) := (HK.out w5 HW5.out.hb 2 (by simp)).1
  have p1 : w5.cell? ⟨b, off + 7, none⟩ = some (.string ⟨m.text.toArray⟩) := (HK.out w5 HW5.out.hb 2 (by simp)).2.1
  have p2 : w5.cell? ⟨b, off + 8, none⟩ = some (.int .i64 (m.at_ : Int)) := (HK.out w5 HW5.out.hb 2 (by simp)).2.2
  have p3 : w5.cell? ⟨b, off + 6 + 1, none⟩ = some (.string ⟨m.text.toArray⟩) := p1
  have p4 : w5.cell? ⟨b, off + 6 + 2, none⟩ = some (.int .i64 (m.at_ : Int)) := p2
  generalize parseP m.text = pp at *
  go_wp2_with fail
  refine (R2.out _).mono ?_
  rintro e w6 ⟨v, rfl, hO, hb6⟩
  have HW6 := Lib.hid (HW5.out.below hb6)
  have hnx : ∀ b off s n c, v = .slice (some ⟨b, off, s⟩) n c → w.heap.size + 2 ≤ b := fun b off s n c e => by
    have := (hO.lt b (by rw [e]; rfl)).1
    have := HW5.out.hs
    omega
  obtain ⟨A', c', rfl⟩ := own_any hO
  have hle : pp.1.length ≤ c' := by
    rcases hO.2 with ⟨h1, h0⟩ | ⟨g, cap, cur, h1, _, _, hn, _⟩
    · omega
    · injection h1 with _ _ h3
      omega
  have HV := Lib.hid (SlAt.of_own encR_len hO)
  have HNX : Hid (∀ b off s, A' = some ⟨b, off, s⟩ → w.heap.size + 2 ≤ b) := Lib.hid (fun b off s e => hnx b off s _ _ (by rw [e]))
  have HLE := Lib.hid hle
  clear x0 x1 x2 x3 x4 x5 x6 x7 x8 z0 z1 z2 z3 z4 z5 z6 z7 z8 ur ux
  clear HW5 hb6 R2 hO hnx hle p0 p1 p2 p3 p4
  obtain ⟨x0, x1, x2, x3, x4, x5, x6, x7, x8⟩ := cells9 HW6.out.hx
  obtain ⟨z0, z1, z2, z3, z4, z5, z6, z7, z8⟩ := cells9 HW6.out.hr
  have ur := fun j => Joins.unfrozen_of_block HW6.out.hr j
  have ux := fun j => Joins.unfrozen_of_block HW6.out.hx j
  have p0 : w6.cell? ⟨b, off + 6, none⟩ = some (.int .i64 (m.kind : Int)) := (HK.out w6 HW6.out.hb 2 (by simp)).1
  have p1 : w6.cell? ⟨b, off + 7, none⟩ = some (.string ⟨m.text.toArray⟩) := (HK.out w6 HW6.out.hb 2 (by simp)).2.1
  have p2 : w6.cell? ⟨b, off + 8, none⟩ = some (.int .i64 (m.at_ : Int)) := (HK.out w6 HW6.out.hb 2 (by simp)).2.2
  have p3 : w6.cell? ⟨b, off + 6 + 1, none⟩ = some (.string ⟨m.text.toArray⟩) := p1
  have p4 : w6.cell? ⟨b, off + 6 + 2, none⟩ = some (.int .i64 (m.at_ : Int)) := p2
  clear HK HS HV HNX HLE hm
  generalize m.kind = mk at *
  obtain ⟨st, ok⟩ := pp
  simp only at hp
  subst hp
  go_wp2_with fail
  refine body_fin (q := false) HW6.out.hr ?_ ?_ ?_
  · rfl
  · rfl
  · exact .no HO.out (stC_below HW6.out.hb)

set_option maxRecDepth 100000 in
set_option maxHeartbeats 1000000 in
theorem body_set3 {t s m : Tok} {q : List Tok} (A : Option Addr) (k : Nat) (tag : List UInt8) (hl : (t :: s :: m :: q).length ≤ 10000) (htx : ∀ x ∈ (t :: s :: m :: q), x.kind ≤ 6 ∧ x.text.length ≤ 9000) (w : World) (hS : SlAt encT 3 w A (t :: s :: m :: q)) (h4 : t.kind = 4) (h : 6 < kindL t.text) (hs : s.kind = 1) (hm : m.kind = 4) (hp : (parseP m.text).2 = true) (hq : q.length < 2) :
    Calls Tryz.prog 30 #[.string ⟨tag.toArray⟩, .slice A (t :: s :: m :: q).length k] w (BPost (bodyR tag (t :: s :: m :: q)) w) := by
  obtain ⟨O, hO⟩ : ∃ O, bodyR tag (t :: s :: m :: q) = O := ⟨_, rfl⟩
  obtain ⟨n, hn⟩ : ∃ n, (t :: s :: m :: q).length = n := ⟨_, rfl⟩
  rw [hO, hn]
  have HS := Lib.hid hS
  have HTX := Lib.hid htx
  have hn0 : 0 < n := by rw [← hn]; simp
  have g0 : ((n : Int) == 0) = false := by simp; omega
  have g0' : ¬ (n : Int) = 0 := by omega
  have hn3 : 3 ≤ n := by rw [← hn]; simp
  have d3 : decide ((n : Int) < 3) = false := by simp; omega
  have d3' : decide (n < 3) = false := by simp; omega
  obtain ⟨b, off, rfl, hb0, _, _, _⟩ := tk_at HS.out (j := 0) (by simp)
  have HK : Hid (∀ W, Below w.heap.size w W → ∀ j (hj : j < (t :: s :: m :: q).length), W.cell? ⟨b, off + j * 3, none⟩ = some (.int .i64 ((t :: s :: m :: q)[j].kind : Int)) ∧ W.cell? ⟨b, off + j * 3 + 1, none⟩ = some (.string ⟨(t :: s :: m :: q)[j].text.toArray⟩) ∧ W.cell? ⟨b, off + j * 3 + 2, none⟩ = some (.int .i64 ((t :: s :: m :: q)[j].at_ : Int))) := Lib.hid (fun W hW j hj => by
    obtain ⟨b', off', he, _, h1, h2, h3⟩ := tk_at (HS.out.below hW) hj
    cases he
    exact ⟨h1, h2, h3⟩)
  have HO : Hid (O = none) := Lib.hid (by rw [← hO]; exact bodyR_set3 tag h4 h hs hm hp hq)
  have m4 : ((m.kind : Int) != 4) = false := by rw [hm]; rfl
  have d5 : decide ((n : Int) < 5) = true := by rw [← hn]; simp at hq ⊢; omega
  have d5' : decide (n < 5) = true := by rw [← hn]; simp at hq ⊢; omega
  clear hq
  have e6 : decide ((((kindL t.text : Nat) : Int) ≤ 6)) = false := by simp; omega
  have e6' : decide (kindL t.text ≤ 6) = false := by simp; omega
  have f2 : (((letN s.kind).toNat : Int) != 115) = false := by rw [hs]; decide
  have hmt := (htx m (by simp)).2
  have R2 := Lib.hid (fun W => refParse2_any m.text (by omega) W)
  have e0 : (((kindL t.text : Nat) : Int) == 0) = false := by simp; omega
  have e4 : decide ((((kindL t.text : Nat) : Int) ≤ 4)) = false := by simp; omega
  have e4' : decide (kindL t.text ≤ 4) = false := by simp; omega
  clear h
  have KK := Lib.hid (fun W (hW : Below w.heap.size w W) => kinds_any (some ⟨b, off, none⟩) k (t :: s :: m :: q) hl (fun x' hx' => (HTX.out x' hx').1) W (HS.out.below hW))
  obtain ⟨KS, hKS⟩ : ∃ KS : ByteArray, (⟨(kindsL (t :: s :: m :: q)).toArray⟩ : ByteArray) = KS := ⟨_, rfl⟩
  rw [hKS, hn] at KK
  have ks0 : KS.size = n := by rw [← hKS, ← hn]; show (kindsL (t :: s :: m :: q)).toArray.size = _; simp [kindsL]
  have ks1 : 1 < KS.size := by rw [ks0, ← hn]; simp
  have kb1 : KS[1]'ks1 = letN s.kind := by subst hKS; simp [ByteArray.getElem_eq_getElem_data, kindsL]
  clear hO hS htx hl hn hKS hs hmt
  have f1 : ((t.kind : Int) != 4) = false := by rw [h4]; rfl
  have hlt := (HTX.out t (by simp)).2
  have KD := Lib.hid (fun W => refKind_any ⟨t.text.toArray⟩ (by show t.text.toArray.size ≤ _; simp; omega) W)
  have KD : Hid (∀ W, Calls Tryz.prog 21 #[.string ⟨t.text.toArray⟩] W fun e w' => e = .returned (.int .i64 (kindL t.text : Nat)) ∧ Below W.heap.size W w') := KD
  have HW := Lib.hid (BW.start w tag)
  go_enter Tryz.func30, Tryz.ntmps30
  go_upto_region 2 with (fail)
  generalize ((w.alloc (.cells #[.string ⟨#[]⟩, .int .i64 0, .string ⟨#[]⟩, .slice none 0 0, .int .i64 0, .int .i64 0, .bool false, .int .u8 0, .slice none 0 0] 27)).alloc (.cells #[.string ⟨tag.toArray⟩, .int .i64 0, .string ⟨#[]⟩, .slice none 0 0, .int .i64 0, .int .i64 0, .bool false, .int .u8 0, .slice none 0 0] 27)) = W2 at *
  obtain ⟨x0, x1, x2, x3, x4, x5, x6, x7, x8⟩ := cells9 HW.out.hx
  obtain ⟨z0, z1, z2, z3, z4, z5, z6, z7, z8⟩ := cells9 HW.out.hr
  have ur := fun j => Joins.unfrozen_of_block HW.out.hr j
  have ux := fun j => Joins.unfrozen_of_block HW.out.hx j
  have k0 : W2.cell? ⟨b, off, none⟩ = some (.int .i64 (t.kind : Int)) := (HK.out W2 HW.out.hb 0 (by simp)).1
  have k1 : W2.cell? ⟨b, off + 1, none⟩ = some (.string ⟨t.text.toArray⟩) := (HK.out W2 HW.out.hb 0 (by simp)).2.1
  generalize kindL t.text = kd at *
  generalize t.kind = tk at *
  go_wp2_with fail
  refine (KD.out _).mono ?_
  rintro e w3 ⟨rfl, hb3⟩
  have HW3 := Lib.hid (HW.out.below hb3)
  clear x0 x1 x2 x3 x4 x5 x6 x7 x8 z0 z1 z2 z3 z4 z5 z6 z7 z8 ur ux
  clear KD HW hb3 k0 k1
  obtain ⟨x0, x1, x2, x3, x4, x5, x6, x7, x8⟩ := cells9 HW3.out.hx
  obtain ⟨z0, z1, z2, z3, z4, z5, z6, z7, z8⟩ := cells9 HW3.out.hr
  have ur := fun j => Joins.unfrozen_of_block HW3.out.hr j
  have ux := fun j => Joins.unfrozen_of_block HW3.out.hx j
  have HW4 := Lib.hid (HW3.out.set1 (.int .i64 (kd : Int)))
  go_upto_region 5 with (fail)
  clear x0 x1 x2 x3 x4 x5 x6 x7 x8 z0 z1 z2 z3 z4 z5 z6 z7 z8 ur ux
  clear HW3
  generalize w3.setCell ⟨w.heap.size + 1, 1, none⟩ (.int .i64 (kd : Int)) = w4 at *
  obtain ⟨x0, x1, x2, x3, x4, x5, x6, x7, x8⟩ := cells9 HW4.out.hx
  obtain ⟨z0, z1, z2, z3, z4, z5, z6, z7, z8⟩ := cells9 HW4.out.hr
  have ur := fun j => Joins.unfrozen_of_block HW4.out.hr j
  have ux := fun j => Joins.unfrozen_of_block HW4.out.hx j
  go_wp2_with fail
  refine (KK.out _ HW4.out.hb).mono ?_
  rintro e w5 ⟨rfl, hb5⟩
  have HW5 := Lib.hid (HW4.out.below hb5)
  clear x0 x1 x2 x3 x4 x5 x6 x7 x8 z0 z1 z2 z3 z4 z5 z6 z7 z8 ur ux
  clear HW4 hb5 KK HTX
  obtain ⟨x0, x1, x2, x3, x4, x5, x6, x7, x8⟩ := cells9 HW5.out.hx
  obtain ⟨z0, z1, z2, z3, z4, z5, z6, z7, z8⟩ := cells9 HW5.out.hr
  have ur := fun j => Joins.unfrozen_of_block HW5.out.hr j
  have ux := fun j => Joins.unfrozen_of_block HW5.out.hx j
  generalize letN s.kind = y at *
  have p0 : w5.cell? ⟨b, off + 6, none⟩ = some (.int .i64 (m.kind : Int)) := (HK.out w5 HW5.out.hb 2 (by simp)).1
  have p1 : w5.cell? ⟨b, off + 7, none⟩ = some (.string ⟨m.text.toArray⟩) := (HK.out w5 HW5.out.hb 2 (by simp)).2.1
  have p2 : w5.cell? ⟨b, off + 8, none⟩ = some (.int .i64 (m.at_ : Int)) := (HK.out w5 HW5.out.hb 2 (by simp)).2.2
  have p3 : w5.cell? ⟨b, off + 6 + 1, none⟩ = some (.string ⟨m.text.toArray⟩) := p1
  have p4 : w5.cell? ⟨b, off + 6 + 2, none⟩ = some (.int .i64 (m.at_ : Int)) := p2
  generalize parseP m.text = pp at *
  go_wp2_with fail
  refine (R2.out _).mono ?_
  rintro e w6 ⟨v, rfl, hO, hb6⟩
  have HW6 := Lib.hid (HW5.out.below hb6)
  have hnx : ∀ b off s n c, v = .slice (some ⟨b, off, s⟩) n c → w.heap.size + 2 ≤ b := fun b off s n c e => by
    have := (hO.lt b (by rw [e]; rfl)).1
    have := HW5.out.hs
    omega
  obtain ⟨A', c', rfl⟩ := own_any hO
  have hle : pp.1.length ≤ c' := by
    rcases hO.2 with ⟨h1, h0⟩ | ⟨g, cap, cur, h1, _, _, hn, _⟩
    · omega
    · injection h1 with _ _ h3
      omega
  have HV := Lib.hid (SlAt.of_own encR_len hO)
  have HNX : Hid (∀ b off s, A' = some ⟨b, off, s⟩ → w.heap.size + 2 ≤ b) := Lib.hid (fun b off s e => hnx b off s _ _ (by rw [e]))
  have HLE := Lib.hid hle
  clear x0 x1 x2 x3 x4 x5 x6 x7 x8 z0 z1 z2 z3 z4 z5 z6 z7 z8 ur ux
  clear HW5 hb6 R2 hO hnx hle p0 p1 p2 p3 p4
  obtain ⟨x0, x1, x2, x3, x4, x5, x6, x7, x8⟩ := cells9 HW6.out.hx
  obtain ⟨z0, z1, z2, z3, z4, z5, z6, z7, z8⟩ := cells9 HW6.out.hr
  have ur := fun j => Joins.unfrozen_of_block HW6.out.hr j
  have ux := fun j => Joins.unfrozen_of_block HW6.out.hx j
  have p0 : w6.cell? ⟨b, off + 6, none⟩ = some (.int .i64 (m.kind : Int)) := (HK.out w6 HW6.out.hb 2 (by simp)).1
  have p1 : w6.cell? ⟨b, off + 7, none⟩ = some (.string ⟨m.text.toArray⟩) := (HK.out w6 HW6.out.hb 2 (by simp)).2.1
  have p2 : w6.cell? ⟨b, off + 8, none⟩ = some (.int .i64 (m.at_ : Int)) := (HK.out w6 HW6.out.hb 2 (by simp)).2.2
  have p3 : w6.cell? ⟨b, off + 6 + 1, none⟩ = some (.string ⟨m.text.toArray⟩) := p1
  have p4 : w6.cell? ⟨b, off + 6 + 2, none⟩ = some (.int .i64 (m.at_ : Int)) := p2
  clear HK HS HV HNX HLE hm
  generalize m.kind = mk at *
  obtain ⟨st, ok⟩ := pp
  simp only at hp
  subst hp
  go_wp2_with fail
  refine body_fin (q := false) HW6.out.hr ?_ ?_ ?_
  · rfl
  · rfl
  · exact .no HO.out (stC_below HW6.out.hb)

set_option maxRecDepth 100000 in
set_option maxHeartbeats 1000000 in
theorem body_set4 {t s m z y : Tok} {d : List Tok} (A : Option Addr) (k : Nat) (tag : List UInt8) (hl : (t :: s :: m :: z :: y :: d).length ≤ 10000) (htx : ∀ x ∈ (t :: s :: m :: z :: y :: d), x.kind ≤ 6 ∧ x.text.length ≤ 9000) (w : World) (hS : SlAt encT 3 w A (t :: s :: m :: z :: y :: d)) (h4 : t.kind = 4) (h : 6 < kindL t.text) (hs : s.kind = 1) (hm : m.kind = 4) (hp : (parseP m.text).2 = true) (hz : z.kind ≠ 1) :
    Calls Tryz.prog 30 #[.string ⟨tag.toArray⟩, .slice A (t :: s :: m :: z :: y :: d).length k] w (BPost (bodyR tag (t :: s :: m :: z :: y :: d)) w) := by
  obtain ⟨O, hO⟩ : ∃ O, bodyR tag (t :: s :: m :: z :: y :: d) = O := ⟨_, rfl⟩
  obtain ⟨n, hn⟩ : ∃ n, (t :: s :: m :: z :: y :: d).length = n := ⟨_, rfl⟩
  rw [hO, hn]
  have HS := Lib.hid hS
  have HTX := Lib.hid htx
  have hn0 : 0 < n := by rw [← hn]; simp
  have g0 : ((n : Int) == 0) = false := by simp; omega
  have g0' : ¬ (n : Int) = 0 := by omega
  have hn3 : 3 ≤ n := by rw [← hn]; simp
  have d3 : decide ((n : Int) < 3) = false := by simp; omega
  have d3' : decide (n < 3) = false := by simp; omega
  obtain ⟨b, off, rfl, hb0, _, _, _⟩ := tk_at HS.out (j := 0) (by simp)
  have HK : Hid (∀ W, Below w.heap.size w W → ∀ j (hj : j < (t :: s :: m :: z :: y :: d).length), W.cell? ⟨b, off + j * 3, none⟩ = some (.int .i64 ((t :: s :: m :: z :: y :: d)[j].kind : Int)) ∧ W.cell? ⟨b, off + j * 3 + 1, none⟩ = some (.string ⟨(t :: s :: m :: z :: y :: d)[j].text.toArray⟩) ∧ W.cell? ⟨b, off + j * 3 + 2, none⟩ = some (.int .i64 ((t :: s :: m :: z :: y :: d)[j].at_ : Int))) := Lib.hid (fun W hW j hj => by
    obtain ⟨b', off', he, _, h1, h2, h3⟩ := tk_at (HS.out.below hW) hj
    cases he
    exact ⟨h1, h2, h3⟩)
  have HO : Hid (O = none) := Lib.hid (by rw [← hO]; exact bodyR_set4 tag h4 h hs hm hp hz)
  have m4 : ((m.kind : Int) != 4) = false := by rw [hm]; rfl
  have d5 : decide ((n : Int) < 5) = false := by rw [← hn]; simp; omega
  have d5' : decide (n < 5) = false := by rw [← hn]; simp
  have f3 : (((letN z.kind).toNat : Int) != 115) = true := by
    have hz6 := (htx z (by simp)).1
    have : ¬ letN z.kind = 115 := fun e => hz ((letN_s hz6).1 e)
    have : ¬ (letN z.kind).toNat = 115 := fun e => this (UInt8.toNat_inj.1 e)
    simp; omega
  clear hz
  have e6 : decide ((((kindL t.text : Nat) : Int) ≤ 6)) = false := by simp; omega
  have e6' : decide (kindL t.text ≤ 6) = false := by simp; omega
  have f2 : (((letN s.kind).toNat : Int) != 115) = false := by rw [hs]; decide
  have hmt := (htx m (by simp)).2
  have R2 := Lib.hid (fun W => refParse2_any m.text (by omega) W)
  have e0 : (((kindL t.text : Nat) : Int) == 0) = false := by simp; omega
  have e4 : decide ((((kindL t.text : Nat) : Int) ≤ 4)) = false := by simp; omega
  have e4' : decide (kindL t.text ≤ 4) = false := by simp; omega
  clear h
  have KK := Lib.hid (fun W (hW : Below w.heap.size w W) => kinds_any (some ⟨b, off, none⟩) k (t :: s :: m :: z :: y :: d) hl (fun x' hx' => (HTX.out x' hx').1) W (HS.out.below hW))
  obtain ⟨KS, hKS⟩ : ∃ KS : ByteArray, (⟨(kindsL (t :: s :: m :: z :: y :: d)).toArray⟩ : ByteArray) = KS := ⟨_, rfl⟩
  rw [hKS, hn] at KK
  have ks0 : KS.size = n := by rw [← hKS, ← hn]; show (kindsL (t :: s :: m :: z :: y :: d)).toArray.size = _; simp [kindsL]
  have ks1 : 1 < KS.size := by rw [ks0, ← hn]; simp
  have kb1 : KS[1]'ks1 = letN s.kind := by subst hKS; simp [ByteArray.getElem_eq_getElem_data, kindsL]
  have ks3 : 3 < KS.size := by rw [ks0, ← hn]; simp
  have kb3 : KS[3]'ks3 = letN z.kind := by subst hKS; simp [ByteArray.getElem_eq_getElem_data, kindsL]
  clear hO hS htx hl hn hKS hs hmt
  have f1 : ((t.kind : Int) != 4) = false := by rw [h4]; rfl
  have hlt := (HTX.out t (by simp)).2
  have KD := Lib.hid (fun W => refKind_any ⟨t.text.toArray⟩ (by show t.text.toArray.size ≤ _; simp; omega) W)
  have KD : Hid (∀ W, Calls Tryz.prog 21 #[.string ⟨t.text.toArray⟩] W fun e w' => e = .returned (.int .i64 (kindL t.text : Nat)) ∧ Below W.heap.size W w') := KD
  have HW := Lib.hid (BW.start w tag)
  go_enter Tryz.func30, Tryz.ntmps30
  go_upto_region 2 with (fail)
  generalize ((w.alloc (.cells #[.string ⟨#[]⟩, .int .i64 0, .string ⟨#[]⟩, .slice none 0 0, .int .i64 0, .int .i64 0, .bool false, .int .u8 0, .slice none 0 0] 27)).alloc (.cells #[.string ⟨tag.toArray⟩, .int .i64 0, .string ⟨#[]⟩, .slice none 0 0, .int .i64 0, .int .i64 0, .bool false, .int .u8 0, .slice none 0 0] 27)) = W2 at *
  obtain ⟨x0, x1, x2, x3, x4, x5, x6, x7, x8⟩ := cells9 HW.out.hx
  obtain ⟨z0, z1, z2, z3, z4, z5, z6, z7, z8⟩ := cells9 HW.out.hr
  have ur := fun j => Joins.unfrozen_of_block HW.out.hr j
  have ux := fun j => Joins.unfrozen_of_block HW.out.hx j
  have k0 : W2.cell? ⟨b, off, none⟩ = some (.int .i64 (t.kind : Int)) := (HK.out W2 HW.out.hb 0 (by simp)).1
  have k1 : W2.cell? ⟨b, off + 1, none⟩ = some (.string ⟨t.text.toArray⟩) := (HK.out W2 HW.out.hb 0 (by simp)).2.1
  generalize kindL t.text = kd at *
  generalize t.kind = tk at *
  go_wp2_with fail
  refine (KD.out _).mono ?_
  rintro e w3 ⟨rfl, hb3⟩
  have HW3 := Lib.hid (HW.out.below hb3)
  clear x0 x1 x2 x3 x4 x5 x6 x7 x8 z0 z1 z2 z3 z4 z5 z6 z7 z8 ur ux
  clear KD HW hb3 k0 k1
  obtain ⟨x0, x1, x2, x3, x4, x5, x6, x7, x8⟩ := cells9 HW3.out.hx
  obtain ⟨z0, z1, z2, z3, z4, z5, z6, z7, z8⟩ := cells9 HW3.out.hr
  have ur := fun j => Joins.unfrozen_of_block HW3.out.hr j
  have ux := fun j => Joins.unfrozen_of_block HW3.out.hx j
  have HW4 := Lib.hid (HW3.out.set1 (.int .i64 (kd : Int)))
  go_upto_region 5 with (fail)
  clear x0 x1 x2 x3 x4 x5 x6 x7 x8 z0 z1 z2 z3 z4 z5 z6 z7 z8 ur ux
  clear HW3
  generalize w3.setCell ⟨w.heap.size + 1, 1, none⟩ (.int .i64 (kd : Int)) = w4 at *
  obtain ⟨x0, x1, x2, x3, x4, x5, x6, x7, x8⟩ := cells9 HW4.out.hx
  obtain ⟨z0, z1, z2, z3, z4, z5, z6, z7, z8⟩ := cells9 HW4.out.hr
  have ur := fun j => Joins.unfrozen_of_block HW4.out.hr j
  have ux := fun j => Joins.unfrozen_of_block HW4.out.hx j
  go_wp2_with fail
  refine (KK.out _ HW4.out.hb).mono ?_
  rintro e w5 ⟨rfl, hb5⟩
  have HW5 := Lib.hid (HW4.out.below hb5)
  clear x0 x1 x2 x3 x4 x5 x6 x7 x8 z0 z1 z2 z3 z4 z5 z6 z7 z8 ur ux
  clear HW4 hb5 KK HTX
  obtain ⟨x0, x1, x2, x3, x4, x5, x6, x7, x8⟩ := cells9 HW5.out.hx
  obtain ⟨z0, z1, z2, z3, z4, z5, z6, z7, z8⟩ := cells9 HW5.out.hr
  have ur := fun j => Joins.unfrozen_of_block HW5.out.hr j
  have ux := fun j => Joins.unfrozen_of_block HW5.out.hx j
  generalize letN s.kind = y at *
  have p0 : w5.cell? ⟨b, off + 6, none⟩ = some (.int .i64 (m.kind : Int)) := (HK.out w5 HW5.out.hb 2 (by simp)).1
  have p1 : w5.cell? ⟨b, off + 7, none⟩ = some (.string ⟨m.text.toArray⟩) := (HK.out w5 HW5.out.hb 2 (by simp)).2.1
  have p2 : w5.cell? ⟨b, off + 8, none⟩ = some (.int .i64 (m.at_ : Int)) := (HK.out w5 HW5.out.hb 2 (by simp)).2.2
  have p3 : w5.cell? ⟨b, off + 6 + 1, none⟩ = some (.string ⟨m.text.toArray⟩) := p1
  have p4 : w5.cell? ⟨b, off + 6 + 2, none⟩ = some (.int .i64 (m.at_ : Int)) := p2
  generalize parseP m.text = pp at *
  go_wp2_with fail
  refine (R2.out _).mono ?_
  rintro e w6 ⟨v, rfl, hO, hb6⟩
  have HW6 := Lib.hid (HW5.out.below hb6)
  have hnx : ∀ b off s n c, v = .slice (some ⟨b, off, s⟩) n c → w.heap.size + 2 ≤ b := fun b off s n c e => by
    have := (hO.lt b (by rw [e]; rfl)).1
    have := HW5.out.hs
    omega
  obtain ⟨A', c', rfl⟩ := own_any hO
  have hle : pp.1.length ≤ c' := by
    rcases hO.2 with ⟨h1, h0⟩ | ⟨g, cap, cur, h1, _, _, hn, _⟩
    · omega
    · injection h1 with _ _ h3
      omega
  have HV := Lib.hid (SlAt.of_own encR_len hO)
  have HNX : Hid (∀ b off s, A' = some ⟨b, off, s⟩ → w.heap.size + 2 ≤ b) := Lib.hid (fun b off s e => hnx b off s _ _ (by rw [e]))
  have HLE := Lib.hid hle
  clear x0 x1 x2 x3 x4 x5 x6 x7 x8 z0 z1 z2 z3 z4 z5 z6 z7 z8 ur ux
  clear HW5 hb6 R2 hO hnx hle p0 p1 p2 p3 p4
  obtain ⟨x0, x1, x2, x3, x4, x5, x6, x7, x8⟩ := cells9 HW6.out.hx
  obtain ⟨z0, z1, z2, z3, z4, z5, z6, z7, z8⟩ := cells9 HW6.out.hr
  have ur := fun j => Joins.unfrozen_of_block HW6.out.hr j
  have ux := fun j => Joins.unfrozen_of_block HW6.out.hx j
  have p0 : w6.cell? ⟨b, off + 6, none⟩ = some (.int .i64 (m.kind : Int)) := (HK.out w6 HW6.out.hb 2 (by simp)).1
  have p1 : w6.cell? ⟨b, off + 7, none⟩ = some (.string ⟨m.text.toArray⟩) := (HK.out w6 HW6.out.hb 2 (by simp)).2.1
  have p2 : w6.cell? ⟨b, off + 8, none⟩ = some (.int .i64 (m.at_ : Int)) := (HK.out w6 HW6.out.hb 2 (by simp)).2.2
  have p3 : w6.cell? ⟨b, off + 6 + 1, none⟩ = some (.string ⟨m.text.toArray⟩) := p1
  have p4 : w6.cell? ⟨b, off + 6 + 2, none⟩ = some (.int .i64 (m.at_ : Int)) := p2
  clear HK HS HV HNX HLE hm
  generalize m.kind = mk at *
  generalize letN z.kind = zk at *
  obtain ⟨st, ok⟩ := pp
  simp only at hp
  subst hp
  go_wp2_with fail
  refine body_fin (q := false) HW6.out.hr ?_ ?_ ?_
  · rfl
  · rfl
  · exact .no HO.out (stC_below HW6.out.hb)

end Go.Proofs.YthfopimgdikpgaaGreatDoor
