/- The reference of layer 7: body, FETCH. -/
import Derived.Test.YthfopimgdikpgaaGreatDoorRef07R
import Derived.Test.YthfopimgdikpgaaGreatDoorRef02P
namespace Go.Proofs.YthfopimgdikpgaaGreatDoor
open Go.RowKit

theorem fetR_is (c : Cmd) (l : List Tok) : fetR c l = (if l.length = 1 then wsR true l else lsR true l).map fun i => { c with items := i } := by
  unfold fetR wsR lsR
  split
  · cases wnames l <;> simp
  · cases lnames l <;> simp
set_option maxRecDepth 100000 in
set_option maxHeartbeats 1000000 in
theorem body_fet1 {t s m z u : Tok} {d : List Tok} (A : Option Addr) (k : Nat) (tag : List UInt8) (hl : (t :: s :: m :: z :: u :: d).length ≤ 10000) (hc : (t :: s :: m :: z :: u :: d).length ≤ k) (htx : ∀ x ∈ (t :: s :: m :: z :: u :: d), x.kind ≤ 6 ∧ x.text.length ≤ 9000) (w : World) (hS : SlAt encT 3 w A (t :: s :: m :: z :: u :: d)) (h4 : t.kind = 4) (h : 6 < kindL t.text) (hs : s.kind = 1) (hm : m.kind = 4) (hp : (parseP m.text).2 = true) (hz : z.kind = 1) (h7 : kindL t.text = 7) (hd : d = []) :
    Calls Tryz.prog 30 #[.string ⟨tag.toArray⟩, .slice A (t :: s :: m :: z :: u :: d).length k] w (BPost (bodyR tag (t :: s :: m :: z :: u :: d)) w) := by
  obtain ⟨O, hO⟩ : ∃ O, bodyR tag (t :: s :: m :: z :: u :: d) = O := ⟨_, rfl⟩
  obtain ⟨n, hn⟩ : ∃ n, (t :: s :: m :: z :: u :: d).length = n := ⟨_, rfl⟩
  rw [hO, hn]
  have HS := Lib.hid hS
  have HTX := Lib.hid htx
  have hn0 : 0 < n := by rw [← hn]; simp
  have g0 : ((n : Int) == 0) = false := by simp; omega
  have g0' : ¬ (n : Int) = 0 := by omega
  have hn3 : 3 ≤ n := by rw [← hn]; simp
  have d3 : decide ((n : Int) < 3) = false := by simp; omega
  have d3' : decide (n < 3) = false := by simp; omega
  have s0 := fun x lo hi mx W => sliceAtRT x lo hi mx W
  obtain ⟨A4, hA4⟩ : ∃ A4, offT A k 4 = A4 := ⟨_, rfl⟩
  have hn4 : n - 4 = (u :: d).length := by rw [← hn]; simp
  have S4 : Hid (∀ W, Below w.heap.size w W → SlAt encT 3 W A4 (u :: d)) := Lib.hid (fun W hW => by
    have h := slAt_drop (c := k) (lo := 4) (hS.below hW) hc (by simp)
    rw [hA4] at h
    exact h)
  have s4 : ∀ W, (Instr.slice 39 (.slice A n k) (some (.int .i64 4)) none none).run Tryz.prog W = .ok (.slice A4 (u :: d).length (k - 4)) W := fun W => by
    have h := sliceRT_l A n k 4 (by rw [← hn]; simp) W
    rw [hA4, hn4] at h
    exact h
  have LI := Lib.hid (fun W (hW : Below w.heap.size w W) => rlist_any true A4 (k - 4) (u :: d) (by simp only [List.length_cons] at hl ⊢; omega) (by simp only [List.length_cons] at hc ⊢; omega) (fun x hx => ⟨(htx x (by rcases List.mem_cons.1 hx with e | e <;> simp [e])).1, Nat.le_trans (htx x (by rcases List.mem_cons.1 hx with e | e <;> simp [e])).2 (by omega)⟩) W (S4.out W hW))
  have WO := Lib.hid (fun W (hW : Below w.heap.size w W) => rwords_any true A4 (k - 4) (u :: d) (by simp only [List.length_cons] at hl ⊢; omega) (fun x hx => ⟨(htx x (by rcases List.mem_cons.1 hx with e | e <;> simp [e])).1, Nat.le_trans (htx x (by rcases List.mem_cons.1 hx with e | e <;> simp [e])).2 (by omega)⟩) W (S4.out W hW))
  obtain ⟨b, off, rfl, hb0, _, _, _⟩ := tk_at HS.out (j := 0) (by simp)
  have HK : Hid (∀ W, Below w.heap.size w W → ∀ j (hj : j < (t :: s :: m :: z :: u :: d).length), W.cell? ⟨b, off + j * 3, none⟩ = some (.int .i64 ((t :: s :: m :: z :: u :: d)[j].kind : Int)) ∧ W.cell? ⟨b, off + j * 3 + 1, none⟩ = some (.string ⟨(t :: s :: m :: z :: u :: d)[j].text.toArray⟩) ∧ W.cell? ⟨b, off + j * 3 + 2, none⟩ = some (.int .i64 ((t :: s :: m :: z :: u :: d)[j].at_ : Int))) := Lib.hid (fun W hW j hj => by
    obtain ⟨b', off', he, _, h1, h2, h3⟩ := tk_at (HS.out.below hW) hj
    cases he
    exact ⟨h1, h2, h3⟩)
  have HO : Hid (O = (wsR true (u :: d)).map fun i => { ({ cmd0 tag with kind := kindL t.text, set := (parseP m.text).1 } : Cmd) with items := i }) := Lib.hid (by rw [← hO]; rw [bodyR_set tag h4 h hs, if_neg (by simp [hm, hp])]; refine (if_pos ⟨hz, by simp⟩).trans ?_; rw [if_pos h7, fetR_is, if_pos (by rw [hd]; rfl)])
  have m4 : ((m.kind : Int) != 4) = false := by rw [hm]; rfl
  have d5 : decide ((n : Int) < 5) = false := by rw [← hn]; simp; omega
  have d5' : decide (n < 5) = false := by rw [← hn]; simp
  have f3 : (((letN z.kind).toNat : Int) != 115) = false := by rw [hz]; decide
  have e7 : (((kindL t.text : Nat) : Int) == 7) = true := by rw [h7]; rfl
  have gn : ((n : Int) == 5) = true := by rw [← hn, hd]; rfl
  generalize wsR true (u :: d) = SU at *
  clear h7 hz hn4 hA4 S4 hd
  have e6 : decide ((((kindL t.text : Nat) : Int) ≤ 6)) = false := by simp; omega
  have e6' : decide (kindL t.text ≤ 6) = false := by simp; omega
  have f2 : (((letN s.kind).toNat : Int) != 115) = false := by rw [hs]; decide
  have hmt := (htx m (by simp)).2
  have R2 := Lib.hid (fun W => refParse2_any m.text (by omega) W)
  have e0 : (((kindL t.text : Nat) : Int) == 0) = false := by simp; omega
  have e4 : decide ((((kindL t.text : Nat) : Int) ≤ 4)) = false := by simp; omega
  have e4' : decide (kindL t.text ≤ 4) = false := by simp; omega
  clear h
  have KK := Lib.hid (fun W (hW : Below w.heap.size w W) => kinds_any (some ⟨b, off, none⟩) k (t :: s :: m :: z :: u :: d) hl (fun x' hx' => (HTX.out x' hx').1) W (HS.out.below hW))
  obtain ⟨KS, hKS⟩ : ∃ KS : ByteArray, (⟨(kindsL (t :: s :: m :: z :: u :: d)).toArray⟩ : ByteArray) = KS := ⟨_, rfl⟩
  rw [hKS, hn] at KK
  have ks0 : KS.size = n := by rw [← hKS, ← hn]; show (kindsL (t :: s :: m :: z :: u :: d)).toArray.size = _; simp [kindsL]
  have ks1 : 1 < KS.size := by rw [ks0, ← hn]; simp
  have kb1 : KS[1]'ks1 = letN s.kind := by subst hKS; simp [ByteArray.getElem_eq_getElem_data, kindsL]
  have ks3 : 3 < KS.size := by rw [ks0, ← hn]; simp
  have kb3 : KS[3]'ks3 = letN z.kind := by subst hKS; simp [ByteArray.getElem_eq_getElem_data, kindsL]
  have hle4 : 4 ≤ n := by rw [← hn]; simp
  clear hO hS htx hc hl hn hKS hs hmt
  have f1 : ((t.kind : Int) != 4) = false := by rw [h4]; rfl
  have hlt := (HTX.out t (by simp)).2
  have KD := Lib.hid (fun W => refKind_any ⟨t.text.toArray⟩ (by show t.text.toArray.size ≤ _; simp; omega) W)
  have KD : Hid (∀ W, Calls Tryz.prog 21 #[.string ⟨t.text.toArray⟩] W fun e w' => e = .returned (.int .i64 (kindL t.text : Nat)) ∧ Below W.heap.size W w') := KD
  have HW := Lib.hid (BW.start w tag)
  go_enter Tryz.func30, Tryz.ntmps30
  go_upto_region 2 with (fail)
  generalize ((w.alloc (.cells #[.string ⟨#[]⟩, .int .i64 0, .string ⟨#[]⟩, .slice none 0 0, .int .i64 0, .int .i64 0, .bool false, .int .u8 0, .slice none 0 0] 27)).alloc (.cells #[.string ⟨tag.toArray⟩, .int .i64 0, .string ⟨#[]⟩, .slice none 0 0, .int .i64 0, .int .i64 0, .bool false, .int .u8 0, .slice none 0 0] 27)) = W2 at *
  obtain ⟨x0, x1, x2, x3, x4, x5, x6, x7, x8⟩ := cells9 HW.out.hx
  obtain ⟨z0, z1, z2, z3, z4, z5, z6, z7, z8⟩ := cells9 HW.out.hr
  have ur := fun j => Joins.unfrozen_of_block HW.out.hr j
  have ux := fun j => Joins.unfrozen_of_block HW.out.hx j
  have k0 : W2.cell? ⟨b, off, none⟩ = some (.int .i64 (t.kind : Int)) := (HK.out W2 HW.out.hb 0 (by simp)).1
  have k1 : W2.cell? ⟨b, off + 1, none⟩ = some (.string ⟨t.text.toArray⟩) := (HK.out W2 HW.out.hb 0 (by simp)).2.1
  generalize kindL t.text = kd at *
  generalize t.kind = tk at *
  go_wp2_with fail
  refine (KD.out _).mono ?_
  rintro e w3 ⟨rfl, hb3⟩
  have HW3 := Lib.hid (HW.out.below hb3)
  clear x0 x1 x2 x3 x4 x5 x6 x7 x8 z0 z1 z2 z3 z4 z5 z6 z7 z8 ur ux
  clear KD HW hb3 k0 k1
  obtain ⟨x0, x1, x2, x3, x4, x5, x6, x7, x8⟩ := cells9 HW3.out.hx
  obtain ⟨z0, z1, z2, z3, z4, z5, z6, z7, z8⟩ := cells9 HW3.out.hr
  have ur := fun j => Joins.unfrozen_of_block HW3.out.hr j
  have ux := fun j => Joins.unfrozen_of_block HW3.out.hx j
  have HW4 := Lib.hid (HW3.out.set1 (.int .i64 (kd : Int)))
  go_upto_region 5 with (fail)
  clear x0 x1 x2 x3 x4 x5 x6 x7 x8 z0 z1 z2 z3 z4 z5 z6 z7 z8 ur ux
  clear HW3
  generalize w3.setCell ⟨w.heap.size + 1, 1, none⟩ (.int .i64 (kd : Int)) = w4 at *
  obtain ⟨x0, x1, x2, x3, x4, x5, x6, x7, x8⟩ := cells9 HW4.out.hx
  obtain ⟨z0, z1, z2, z3, z4, z5, z6, z7, z8⟩ := cells9 HW4.out.hr
  have ur := fun j => Joins.unfrozen_of_block HW4.out.hr j
  have ux := fun j => Joins.unfrozen_of_block HW4.out.hx j
  go_wp2_with fail
  refine (KK.out _ HW4.out.hb).mono ?_
  rintro e w5 ⟨rfl, hb5⟩
  have HW5 := Lib.hid (HW4.out.below hb5)
  clear x0 x1 x2 x3 x4 x5 x6 x7 x8 z0 z1 z2 z3 z4 z5 z6 z7 z8 ur ux
  clear HW4 hb5 KK HTX
  obtain ⟨x0, x1, x2, x3, x4, x5, x6, x7, x8⟩ := cells9 HW5.out.hx
  obtain ⟨z0, z1, z2, z3, z4, z5, z6, z7, z8⟩ := cells9 HW5.out.hr
  have ur := fun j => Joins.unfrozen_of_block HW5.out.hr j
  have ux := fun j => Joins.unfrozen_of_block HW5.out.hx j
  generalize letN s.kind = y at *
  have p0 : w5.cell? ⟨b, off + 6, none⟩ = some (.int .i64 (m.kind : Int)) := (HK.out w5 HW5.out.hb 2 (by simp)).1
  have p1 : w5.cell? ⟨b, off + 7, none⟩ = some (.string ⟨m.text.toArray⟩) := (HK.out w5 HW5.out.hb 2 (by simp)).2.1
  have p2 : w5.cell? ⟨b, off + 8, none⟩ = some (.int .i64 (m.at_ : Int)) := (HK.out w5 HW5.out.hb 2 (by simp)).2.2
  have p3 : w5.cell? ⟨b, off + 6 + 1, none⟩ = some (.string ⟨m.text.toArray⟩) := p1
  have p4 : w5.cell? ⟨b, off + 6 + 2, none⟩ = some (.int .i64 (m.at_ : Int)) := p2
  generalize parseP m.text = pp at *
  go_wp2_with fail
  refine (R2.out _).mono ?_
  rintro e w6 ⟨v, rfl, hO, hb6⟩
  have HW6 := Lib.hid (HW5.out.below hb6)
  have hnx : ∀ b off s n c, v = .slice (some ⟨b, off, s⟩) n c → w.heap.size + 2 ≤ b := fun b off s n c e => by
    have := (hO.lt b (by rw [e]; rfl)).1
    have := HW5.out.hs
    omega
  obtain ⟨A', c', rfl⟩ := own_any hO
  have hle : pp.1.length ≤ c' := by
    rcases hO.2 with ⟨h1, h0⟩ | ⟨g, cap, cur, h1, _, _, hn, _⟩
    · omega
    · injection h1 with _ _ h3
      omega
  have HV := Lib.hid (SlAt.of_own encR_len hO)
  have HNX : Hid (∀ b off s, A' = some ⟨b, off, s⟩ → w.heap.size + 2 ≤ b) := Lib.hid (fun b off s e => hnx b off s _ _ (by rw [e]))
  have HLE := Lib.hid hle
  clear x0 x1 x2 x3 x4 x5 x6 x7 x8 z0 z1 z2 z3 z4 z5 z6 z7 z8 ur ux
  clear HW5 hb6 R2 hO hnx hle p0 p1 p2 p3 p4
  obtain ⟨x0, x1, x2, x3, x4, x5, x6, x7, x8⟩ := cells9 HW6.out.hx
  obtain ⟨z0, z1, z2, z3, z4, z5, z6, z7, z8⟩ := cells9 HW6.out.hr
  have ur := fun j => Joins.unfrozen_of_block HW6.out.hr j
  have ux := fun j => Joins.unfrozen_of_block HW6.out.hx j
  have p0 : w6.cell? ⟨b, off + 6, none⟩ = some (.int .i64 (m.kind : Int)) := (HK.out w6 HW6.out.hb 2 (by simp)).1
  have p1 : w6.cell? ⟨b, off + 7, none⟩ = some (.string ⟨m.text.toArray⟩) := (HK.out w6 HW6.out.hb 2 (by simp)).2.1
  have p2 : w6.cell? ⟨b, off + 8, none⟩ = some (.int .i64 (m.at_ : Int)) := (HK.out w6 HW6.out.hb 2 (by simp)).2.2
  have p3 : w6.cell? ⟨b, off + 6 + 1, none⟩ = some (.string ⟨m.text.toArray⟩) := p1
  have p4 : w6.cell? ⟨b, off + 6 + 2, none⟩ = some (.int .i64 (m.at_ : Int)) := p2
  obtain ⟨st, ok⟩ := pp
  simp only at hp
  subst hp
  simp only at HV HLE HW6 HO x0 x1 x2 x3 x4 x5 x6 x7 x8
  have HW7 := Lib.hid (HW6.out.set3 (.slice A' st.length c'))
  have HV7 := Lib.hid (slAt_setx HV.out HNX.out 3 (.slice A' st.length c'))
  go_upto_region 23 with (fail)
  clear x0 x1 x2 x3 x4 x5 x6 x7 x8 z0 z1 z2 z3 z4 z5 z6 z7 z8 ur ux
  clear HW6 HV p0 p1 p2 p3 p4
  generalize w6.setCell ⟨w.heap.size + 1, 3, none⟩ (.slice A' st.length c') = w7 at *
  obtain ⟨x0, x1, x2, x3, x4, x5, x6, x7, x8⟩ := cells9 HW7.out.hx
  obtain ⟨z0, z1, z2, z3, z4, z5, z6, z7, z8⟩ := cells9 HW7.out.hr
  have ur := fun j => Joins.unfrozen_of_block HW7.out.hr j
  have ux := fun j => Joins.unfrozen_of_block HW7.out.hx j
  clear HK HS hm
  generalize m.kind = mk at *
  generalize letN z.kind = zk at *
  generalize (u :: d).length = n4 at *
  go_wp2_with fail
  refine (LI.out _ HW7.out.hb).mono ?_
  rintro e w8 ⟨i1, q1, rfl, hs1, hq1, hb8⟩
  have HW8 := Lib.hid (HW7.out.below hb8)
  have HV8 := Lib.hid (HV7.out.below hb8)
  clear x0 x1 x2 x3 x4 x5 x6 x7 x8 z0 z1 z2 z3 z4 z5 z6 z7 z8 ur ux
  clear HW7 HV7 hb8 LI
  obtain ⟨x0, x1, x2, x3, x4, x5, x6, x7, x8⟩ := cells9 HW8.out.hx
  obtain ⟨z0, z1, z2, z3, z4, z5, z6, z7, z8⟩ := cells9 HW8.out.hr
  have ur := fun j => Joins.unfrozen_of_block HW8.out.hr j
  have ux := fun j => Joins.unfrozen_of_block HW8.out.hx j
  go_wp2_with fail
  refine (WO.out _ HW8.out.hb).mono ?_
  rintro e w9 ⟨i2, q2, rfl, hs2, hq2, hb9⟩
  have HW9 := Lib.hid (HW8.out.below hb9)
  have HV9 := Lib.hid (HV8.out.below hb9)
  clear x0 x1 x2 x3 x4 x5 x6 x7 x8 z0 z1 z2 z3 z4 z5 z6 z7 z8 ur ux
  clear HW8 HV8 hb9 WO
  obtain ⟨x0, x1, x2, x3, x4, x5, x6, x7, x8⟩ := cells9 HW9.out.hx
  obtain ⟨z0, z1, z2, z3, z4, z5, z6, z7, z8⟩ := cells9 HW9.out.hr
  have ur := fun j => Joins.unfrozen_of_block HW9.out.hr j
  have ux := fun j => Joins.unfrozen_of_block HW9.out.hx j
  have HW10 := Lib.hid (HW9.out.set4 (.int .i64 (i2 : Int)))
  have HV10 := Lib.hid (slAt_setx HV9.out HNX.out 4 (.int .i64 (i2 : Int)))
  go_upto_region 28 with (fail)
  clear x0 x1 x2 x3 x4 x5 x6 x7 x8 z0 z1 z2 z3 z4 z5 z6 z7 z8 ur ux
  clear HW9 HV9
  generalize w9.setCell ⟨w.heap.size + 1, 4, none⟩ (.int .i64 (i2 : Int)) = w10 at *
  obtain ⟨x0, x1, x2, x3, x4, x5, x6, x7, x8⟩ := cells9 HW10.out.hx
  obtain ⟨z0, z1, z2, z3, z4, z5, z6, z7, z8⟩ := cells9 HW10.out.hr
  have ur := fun j => Joins.unfrozen_of_block HW10.out.hr j
  have ux := fun j => Joins.unfrozen_of_block HW10.out.hx j
  cases q2 with
  | false =>
    have HO : Hid (O = none) := Lib.hid (by rw [HO.out, hq2.out]; rfl)
    go_wp2_with fail
    refine body_fin (q := false) HW10.out.hr ?_ ?_ ?_
    · rfl
    · rfl
    · exact .no HO.out (stC_below HW10.out.hb)
  | true =>
    have HO : Hid (O = some { cmd0 tag with kind := kd, set := st, items := i2 }) := Lib.hid (by rw [HO.out, hq2.out]; rfl)
    go_wp2_with fail
    refine body_fin (q := true) HW10.out.hr ?_ ?_ ?_
    · rfl
    · rfl
    · exact .sets (c := { cmd0 tag with kind := kd, set := st, items := i2 }) HO.out rfl HV10.out HLE.out (stC_grown _ _ _ _ _ _ _ _ _ _ _) HNX.out (stC_below HW10.out.hb)

set_option maxRecDepth 100000 in
set_option maxHeartbeats 1000000 in
theorem body_fet2 {t s m z u : Tok} {d : List Tok} (A : Option Addr) (k : Nat) (tag : List UInt8) (hl : (t :: s :: m :: z :: u :: d).length ≤ 10000) (hc : (t :: s :: m :: z :: u :: d).length ≤ k) (htx : ∀ x ∈ (t :: s :: m :: z :: u :: d), x.kind ≤ 6 ∧ x.text.length ≤ 9000) (w : World) (hS : SlAt encT 3 w A (t :: s :: m :: z :: u :: d)) (h4 : t.kind = 4) (h : 6 < kindL t.text) (hs : s.kind = 1) (hm : m.kind = 4) (hp : (parseP m.text).2 = true) (hz : z.kind = 1) (h7 : kindL t.text = 7) (hd : d ≠ []) :
    Calls Tryz.prog 30 #[.string ⟨tag.toArray⟩, .slice A (t :: s :: m :: z :: u :: d).length k] w (BPost (bodyR tag (t :: s :: m :: z :: u :: d)) w) := by
  obtain ⟨O, hO⟩ : ∃ O, bodyR tag (t :: s :: m :: z :: u :: d) = O := ⟨_, rfl⟩
  obtain ⟨n, hn⟩ : ∃ n, (t :: s :: m :: z :: u :: d).length = n := ⟨_, rfl⟩
  rw [hO, hn]
  have HS := Lib.hid hS
  have HTX := Lib.hid htx
  have hn0 : 0 < n := by rw [← hn]; simp
  have g0 : ((n : Int) == 0) = false := by simp; omega
  have g0' : ¬ (n : Int) = 0 := by omega
  have hn3 : 3 ≤ n := by rw [← hn]; simp
  have d3 : decide ((n : Int) < 3) = false := by simp; omega
  have d3' : decide (n < 3) = false := by simp; omega
  have s0 := fun x lo hi mx W => sliceAtRT x lo hi mx W
  obtain ⟨A4, hA4⟩ : ∃ A4, offT A k 4 = A4 := ⟨_, rfl⟩
  have hn4 : n - 4 = (u :: d).length := by rw [← hn]; simp
  have S4 : Hid (∀ W, Below w.heap.size w W → SlAt encT 3 W A4 (u :: d)) := Lib.hid (fun W hW => by
    have h := slAt_drop (c := k) (lo := 4) (hS.below hW) hc (by simp)
    rw [hA4] at h
    exact h)
  have s4 : ∀ W, (Instr.slice 39 (.slice A n k) (some (.int .i64 4)) none none).run Tryz.prog W = .ok (.slice A4 (u :: d).length (k - 4)) W := fun W => by
    have h := sliceRT_l A n k 4 (by rw [← hn]; simp) W
    rw [hA4, hn4] at h
    exact h
  have LI := Lib.hid (fun W (hW : Below w.heap.size w W) => rlist_any true A4 (k - 4) (u :: d) (by simp only [List.length_cons] at hl ⊢; omega) (by simp only [List.length_cons] at hc ⊢; omega) (fun x hx => ⟨(htx x (by rcases List.mem_cons.1 hx with e | e <;> simp [e])).1, Nat.le_trans (htx x (by rcases List.mem_cons.1 hx with e | e <;> simp [e])).2 (by omega)⟩) W (S4.out W hW))
  have WO := Lib.hid (fun W (hW : Below w.heap.size w W) => rwords_any true A4 (k - 4) (u :: d) (by simp only [List.length_cons] at hl ⊢; omega) (fun x hx => ⟨(htx x (by rcases List.mem_cons.1 hx with e | e <;> simp [e])).1, Nat.le_trans (htx x (by rcases List.mem_cons.1 hx with e | e <;> simp [e])).2 (by omega)⟩) W (S4.out W hW))
  obtain ⟨b, off, rfl, hb0, _, _, _⟩ := tk_at HS.out (j := 0) (by simp)
  have HK : Hid (∀ W, Below w.heap.size w W → ∀ j (hj : j < (t :: s :: m :: z :: u :: d).length), W.cell? ⟨b, off + j * 3, none⟩ = some (.int .i64 ((t :: s :: m :: z :: u :: d)[j].kind : Int)) ∧ W.cell? ⟨b, off + j * 3 + 1, none⟩ = some (.string ⟨(t :: s :: m :: z :: u :: d)[j].text.toArray⟩) ∧ W.cell? ⟨b, off + j * 3 + 2, none⟩ = some (.int .i64 ((t :: s :: m :: z :: u :: d)[j].at_ : Int))) := Lib.hid (fun W hW j hj => by
    obtain ⟨b', off', he, _, h1, h2, h3⟩ := tk_at (HS.out.below hW) hj
    cases he
    exact ⟨h1, h2, h3⟩)
  have HO : Hid (O = (lsR true (u :: d)).map fun i => { ({ cmd0 tag with kind := kindL t.text, set := (parseP m.text).1 } : Cmd) with items := i }) := Lib.hid (by rw [← hO]; rw [bodyR_set tag h4 h hs, if_neg (by simp [hm, hp])]; refine (if_pos ⟨hz, by simp⟩).trans ?_; rw [if_pos h7, fetR_is, if_neg (by simpa using hd)])
  have m4 : ((m.kind : Int) != 4) = false := by rw [hm]; rfl
  have d5 : decide ((n : Int) < 5) = false := by rw [← hn]; simp; omega
  have d5' : decide (n < 5) = false := by rw [← hn]; simp
  have f3 : (((letN z.kind).toNat : Int) != 115) = false := by rw [hz]; decide
  have e7 : (((kindL t.text : Nat) : Int) == 7) = true := by rw [h7]; rfl
  have gn : ((n : Int) == 5) = false := by
    have : d.length ≠ 0 := fun e => hd (List.length_eq_zero_iff.1 e)
    rw [← hn]
    simp
    omega
  generalize lsR true (u :: d) = SU at *
  clear h7 hz hn4 hA4 S4 hd
  have e6 : decide ((((kindL t.text : Nat) : Int) ≤ 6)) = false := by simp; omega
  have e6' : decide (kindL t.text ≤ 6) = false := by simp; omega
  have f2 : (((letN s.kind).toNat : Int) != 115) = false := by rw [hs]; decide
  have hmt := (htx m (by simp)).2
  have R2 := Lib.hid (fun W => refParse2_any m.text (by omega) W)
  have e0 : (((kindL t.text : Nat) : Int) == 0) = false := by simp; omega
  have e4 : decide ((((kindL t.text : Nat) : Int) ≤ 4)) = false := by simp; omega
  have e4' : decide (kindL t.text ≤ 4) = false := by simp; omega
  clear h
  have KK := Lib.hid (fun W (hW : Below w.heap.size w W) => kinds_any (some ⟨b, off, none⟩) k (t :: s :: m :: z :: u :: d) hl (fun x' hx' => (HTX.out x' hx').1) W (HS.out.below hW))
  obtain ⟨KS, hKS⟩ : ∃ KS : ByteArray, (⟨(kindsL (t :: s :: m :: z :: u :: d)).toArray⟩ : ByteArray) = KS := ⟨_, rfl⟩
  rw [hKS, hn] at KK
  have ks0 : KS.size = n := by rw [← hKS, ← hn]; show (kindsL (t :: s :: m :: z :: u :: d)).toArray.size = _; simp [kindsL]
  have ks1 : 1 < KS.size := by rw [ks0, ← hn]; simp
  have kb1 : KS[1]'ks1 = letN s.kind := by subst hKS; simp [ByteArray.getElem_eq_getElem_data, kindsL]
  have ks3 : 3 < KS.size := by rw [ks0, ← hn]; simp
  have kb3 : KS[3]'ks3 = letN z.kind := by subst hKS; simp [ByteArray.getElem_eq_getElem_data, kindsL]
  have hle4 : 4 ≤ n := by rw [← hn]; simp
  clear hO hS htx hc hl hn hKS hs hmt
  have f1 : ((t.kind : Int) != 4) = false := by rw [h4]; rfl
  have hlt := (HTX.out t (by simp)).2
  have KD := Lib.hid (fun W => refKind_any ⟨t.text.toArray⟩ (by show t.text.toArray.size ≤ _; simp; omega) W)
  have KD : Hid (∀ W, Calls Tryz.prog 21 #[.string ⟨t.text.toArray⟩] W fun e w' => e = .returned (.int .i64 (kindL t.text : Nat)) ∧ Below W.heap.size W w') := KD
  have HW := Lib.hid (BW.start w tag)
  go_enter Tryz.func30, Tryz.ntmps30
  go_upto_region 2 with (fail)
  generalize ((w.alloc (.cells #[.string ⟨#[]⟩, .int .i64 0, .string ⟨#[]⟩, .slice none 0 0, .int .i64 0, .int .i64 0, .bool false, .int .u8 0, .slice none 0 0] 27)).alloc (.cells #[.string ⟨tag.toArray⟩, .int .i64 0, .string ⟨#[]⟩, .slice none 0 0, .int .i64 0, .int .i64 0, .bool false, .int .u8 0, .slice none 0 0] 27)) = W2 at *
  obtain ⟨x0, x1, x2, x3, x4, x5, x6, x7, x8⟩ := cells9 HW.out.hx
  obtain ⟨z0, z1, z2, z3, z4, z5, z6, z7, z8⟩ := cells9 HW.out.hr
  have ur := fun j => Joins.unfrozen_of_block HW.out.hr j
  have ux := fun j => Joins.unfrozen_of_block HW.out.hx j
  have k0 : W2.cell? ⟨b, off, none⟩ = some (.int .i64 (t.kind : Int)) := (HK.out W2 HW.out.hb 0 (by simp)).1
  have k1 : W2.cell? ⟨b, off + 1, none⟩ = some (.string ⟨t.text.toArray⟩) := (HK.out W2 HW.out.hb 0 (by simp)).2.1
  generalize kindL t.text = kd at *
  generalize t.kind = tk at *
  go_wp2_with fail
  refine (KD.out _).mono ?_
  rintro e w3 ⟨rfl, hb3⟩
  have HW3 := Lib.hid (HW.out.below hb3)
  clear x0 x1 x2 x3 x4 x5 x6 x7 x8 z0 z1 z2 z3 z4 z5 z6 z7 z8 ur ux
  clear KD HW hb3 k0 k1
  obtain ⟨x0, x1, x2, x3, x4, x5, x6, x7, x8⟩ := cells9 HW3.out.hx
  obtain ⟨z0, z1, z2, z3, z4, z5, z6, z7, z8⟩ := cells9 HW3.out.hr
  have ur := fun j => Joins.unfrozen_of_block HW3.out.hr j
  have ux := fun j => Joins.unfrozen_of_block HW3.out.hx j
  have HW4 := Lib.hid (HW3.out.set1 (.int .i64 (kd : Int)))
  go_upto_region 5 with (fail)
  clear x0 x1 x2 x3 x4 x5 x6 x7 x8 z0 z1 z2 z3 z4 z5 z6 z7 z8 ur ux
  clear HW3
  generalize w3.setCell ⟨w.heap.size + 1, 1, none⟩ (.int .i64 (kd : Int)) = w4 at *
  obtain ⟨x0, x1, x2, x3, x4, x5, x6, x7, x8⟩ := cells9 HW4.out.hx
  obtain ⟨z0, z1, z2, z3, z4, z5, z6, z7, z8⟩ := cells9 HW4.out.hr
  have ur := fun j => Joins.unfrozen_of_block HW4.out.hr j
  have ux := fun j => Joins.unfrozen_of_block HW4.out.hx j
  go_wp2_with fail
  refine (KK.out _ HW4.out.hb).mono ?_
  rintro e w5 ⟨rfl, hb5⟩
  have HW5 := Lib.hid (HW4.out.below hb5)
  clear x0 x1 x2 x3 x4 x5 x6 x7 x8 z0 z1 z2 z3 z4 z5 z6 z7 z8 ur ux
  clear HW4 hb5 KK HTX
  obtain ⟨x0, x1, x2, x3, x4, x5, x6, x7, x8⟩ := cells9 HW5.out.hx
  obtain ⟨z0, z1, z2, z3, z4, z5, z6, z7, z8⟩ := cells9 HW5.out.hr
  have ur := fun j => Joins.unfrozen_of_block HW5.out.hr j
  have ux := fun j => Joins.unfrozen_of_block HW5.out.hx j
  generalize letN s.kind = y at *
  have p0 : w5.cell? ⟨b, off + 6, none⟩ = some (.int .i64 (m.kind : Int)) := (HK.out w5 HW5.out.hb 2 (by simp)).1
  have p1 : w5.cell? ⟨b, off + 7, none⟩ = some (.string ⟨m.text.toArray⟩) := (HK.out w5 HW5.out.hb 2 (by simp)).2.1
  have p2 : w5.cell? ⟨b, off + 8, none⟩ = some (.int .i64 (m.at_ : Int)) := (HK.out w5 HW5.out.hb 2 (by simp)).2.2
  have p3 : w5.cell? ⟨b, off + 6 + 1, none⟩ = some (.string ⟨m.text.toArray⟩) := p1
  have p4 : w5.cell? ⟨b, off + 6 + 2, none⟩ = some (.int .i64 (m.at_ : Int)) := p2
  generalize parseP m.text = pp at *
  go_wp2_with fail
  refine (R2.out _).mono ?_
  rintro e w6 ⟨v, rfl, hO, hb6⟩
  have HW6 := Lib.hid (HW5.out.below hb6)
  have hnx : ∀ b off s n c, v = .slice (some ⟨b, off, s⟩) n c → w.heap.size + 2 ≤ b := fun b off s n c e => by
    have := (hO.lt b (by rw [e]; rfl)).1
    have := HW5.out.hs
    omega
  obtain ⟨A', c', rfl⟩ := own_any hO
  have hle : pp.1.length ≤ c' := by
    rcases hO.2 with ⟨h1, h0⟩ | ⟨g, cap, cur, h1, _, _, hn, _⟩
    · omega
    · injection h1 with _ _ h3
      omega
  have HV := Lib.hid (SlAt.of_own encR_len hO)
  have HNX : Hid (∀ b off s, A' = some ⟨b, off, s⟩ → w.heap.size + 2 ≤ b) := Lib.hid (fun b off s e => hnx b off s _ _ (by rw [e]))
  have HLE := Lib.hid hle
  clear x0 x1 x2 x3 x4 x5 x6 x7 x8 z0 z1 z2 z3 z4 z5 z6 z7 z8 ur ux
  clear HW5 hb6 R2 hO hnx hle p0 p1 p2 p3 p4
  obtain ⟨x0, x1, x2, x3, x4, x5, x6, x7, x8⟩ := cells9 HW6.out.hx
  obtain ⟨z0, z1, z2, z3, z4, z5, z6, z7, z8⟩ := cells9 HW6.out.hr
  have ur := fun j => Joins.unfrozen_of_block HW6.out.hr j
  have ux := fun j => Joins.unfrozen_of_block HW6.out.hx j
  have p0 : w6.cell? ⟨b, off + 6, none⟩ = some (.int .i64 (m.kind : Int)) := (HK.out w6 HW6.out.hb 2 (by simp)).1
  have p1 : w6.cell? ⟨b, off + 7, none⟩ = some (.string ⟨m.text.toArray⟩) := (HK.out w6 HW6.out.hb 2 (by simp)).2.1
  have p2 : w6.cell? ⟨b, off + 8, none⟩ = some (.int .i64 (m.at_ : Int)) := (HK.out w6 HW6.out.hb 2 (by simp)).2.2
  have p3 : w6.cell? ⟨b, off + 6 + 1, none⟩ = some (.string ⟨m.text.toArray⟩) := p1
  have p4 : w6.cell? ⟨b, off + 6 + 2, none⟩ = some (.int .i64 (m.at_ : Int)) := p2
  obtain ⟨st, ok⟩ := pp
  simp only at hp
  subst hp
  simp only at HV HLE HW6 HO x0 x1 x2 x3 x4 x5 x6 x7 x8
  have HW7 := Lib.hid (HW6.out.set3 (.slice A' st.length c'))
  have HV7 := Lib.hid (slAt_setx HV.out HNX.out 3 (.slice A' st.length c'))
  go_upto_region 23 with (fail)
  clear x0 x1 x2 x3 x4 x5 x6 x7 x8 z0 z1 z2 z3 z4 z5 z6 z7 z8 ur ux
  clear HW6 HV p0 p1 p2 p3 p4
  generalize w6.setCell ⟨w.heap.size + 1, 3, none⟩ (.slice A' st.length c') = w7 at *
  obtain ⟨x0, x1, x2, x3, x4, x5, x6, x7, x8⟩ := cells9 HW7.out.hx
  obtain ⟨z0, z1, z2, z3, z4, z5, z6, z7, z8⟩ := cells9 HW7.out.hr
  have ur := fun j => Joins.unfrozen_of_block HW7.out.hr j
  have ux := fun j => Joins.unfrozen_of_block HW7.out.hx j
  clear HK HS hm
  generalize m.kind = mk at *
  generalize letN z.kind = zk at *
  generalize (u :: d).length = n4 at *
  go_wp2_with fail
  refine (LI.out _ HW7.out.hb).mono ?_
  rintro e w8 ⟨i1, q1, rfl, hs1, hq1, hb8⟩
  have HW8 := Lib.hid (HW7.out.below hb8)
  have HV8 := Lib.hid (HV7.out.below hb8)
  clear x0 x1 x2 x3 x4 x5 x6 x7 x8 z0 z1 z2 z3 z4 z5 z6 z7 z8 ur ux
  clear HW7 HV7 hb8 LI
  obtain ⟨x0, x1, x2, x3, x4, x5, x6, x7, x8⟩ := cells9 HW8.out.hx
  obtain ⟨z0, z1, z2, z3, z4, z5, z6, z7, z8⟩ := cells9 HW8.out.hr
  have ur := fun j => Joins.unfrozen_of_block HW8.out.hr j
  have ux := fun j => Joins.unfrozen_of_block HW8.out.hx j
  have HW10 := Lib.hid (HW8.out.set4 (.int .i64 (i1 : Int)))
  have HV10 := Lib.hid (slAt_setx HV8.out HNX.out 4 (.int .i64 (i1 : Int)))
  go_upto_region 28 with (fail)
  clear x0 x1 x2 x3 x4 x5 x6 x7 x8 z0 z1 z2 z3 z4 z5 z6 z7 z8 ur ux
  clear HW8 HV8
  generalize w8.setCell ⟨w.heap.size + 1, 4, none⟩ (.int .i64 (i1 : Int)) = w10 at *
  obtain ⟨x0, x1, x2, x3, x4, x5, x6, x7, x8⟩ := cells9 HW10.out.hx
  obtain ⟨z0, z1, z2, z3, z4, z5, z6, z7, z8⟩ := cells9 HW10.out.hr
  have ur := fun j => Joins.unfrozen_of_block HW10.out.hr j
  have ux := fun j => Joins.unfrozen_of_block HW10.out.hx j
  cases q1 with
  | false =>
    have HO : Hid (O = none) := Lib.hid (by rw [HO.out, hq1.out]; rfl)
    go_wp2_with fail
    refine body_fin (q := false) HW10.out.hr ?_ ?_ ?_
    · rfl
    · rfl
    · exact .no HO.out (stC_below HW10.out.hb)
  | true =>
    have HO : Hid (O = some { cmd0 tag with kind := kd, set := st, items := i1 }) := Lib.hid (by rw [HO.out, hq1.out]; rfl)
    go_wp2_with fail
    refine body_fin (q := true) HW10.out.hr ?_ ?_ ?_
    · rfl
    · rfl
    · exact .sets (c := { cmd0 tag with kind := kd, set := st, items := i1 }) HO.out rfl HV10.out HLE.out (stC_grown _ _ _ _ _ _ _ _ _ _ _) HNX.out (stC_below HW10.out.hb)

end Go.Proofs.YthfopimgdikpgaaGreatDoor
