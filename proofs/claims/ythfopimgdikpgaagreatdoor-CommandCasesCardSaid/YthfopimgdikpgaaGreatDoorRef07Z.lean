/- The reference of layer 7: body, STORE. -/
import Derived.Test.YthfopimgdikpgaaGreatDoorRef07R
import Derived.Test.YthfopimgdikpgaaGreatDoorRef02P
namespace Go.Proofs.YthfopimgdikpgaaGreatDoor
open Go.RowKit

theorem wsF_is (l : List Tok) : (wnames l).bind flagsO = wsR false l := by
  unfold wsR
  cases hw : wnames l with
  | none => rfl
  | some ns =>
    have hne := wnames_ne hw
    simp [flagsO, hne]
theorem stoR_no4 (c : Cmd) {u : Tok} {d : List Tok} (h : u.kind ≠ 4) : stoR c (u :: d) = none := by
  rcases d with _ | ⟨s, q⟩ <;> simp [stoR, h]
theorem stoR_nomode (c : Cmd) {u : Tok} {d : List Tok} (h : modeL u.text = none) : stoR c (u :: d) = none := by
  rcases d with _ | ⟨s, q⟩ <;> simp [stoR, h]
theorem stoR_short (c : Cmd) {u : Tok} {d : List Tok} (h : d.length < 2) : stoR c (u :: d) = none := by
  rcases d with _ | ⟨s, _ | ⟨x, q⟩⟩
  · simp [stoR]
  · simp [stoR]
  · simp at h; omega
theorem stoR_nos (c : Cmd) {u s : Tok} {q : List Tok} (h : s.kind ≠ 1) : stoR c (u :: s :: q) = none := by simp [stoR, h]
theorem stoR_is (c : Cmd) {u s x : Tok} {q : List Tok} {mo : Nat} {si : Bool} (h4 : u.kind = 4) (h1 : s.kind = 1) (hm : modeL u.text = some (mo, si)) : stoR c (u :: s :: x :: q) = ((lsR false (x :: q)).or (wsR false (x :: q))).map fun g => { c with mode := mo, silent := si, flags := g } := by
  rw [← wsF_is]
  simp [stoR, h4, h1, hm, lsR]
theorem bodyR_sto (tag : List UInt8) {t s m z u : Tok} {d : List Tok} (h4 : t.kind = 4) (h : 6 < kindL t.text) (hs : s.kind = 1) (hm : m.kind = 4) (hp : (parseP m.text).2 = true) (hz : z.kind = 1) (h7 : kindL t.text ≠ 7) : bodyR tag (t :: s :: m :: z :: u :: d) = stoR { cmd0 tag with kind := kindL t.text, set := (parseP m.text).1 } (u :: d) := by
  rw [bodyR_set tag h4 h hs, if_neg (by simp [hm, hp])]
  refine (if_pos ⟨hz, by simp⟩).trans ?_
  rw [if_neg h7]
set_option maxRecDepth 100000 in
set_option maxHeartbeats 1000000 in
theorem body_sto1 {t s m z u : Tok} {d : List Tok} (A : Option Addr) (k : Nat) (tag : List UInt8) (hl : (t :: s :: m :: z :: u :: d).length ≤ 10000) (htx : ∀ x ∈ (t :: s :: m :: z :: u :: d), x.kind ≤ 6 ∧ x.text.length ≤ 9000) (w : World) (hS : SlAt encT 3 w A (t :: s :: m :: z :: u :: d)) (h4 : t.kind = 4) (h : 6 < kindL t.text) (hs : s.kind = 1) (hm : m.kind = 4) (hp : (parseP m.text).2 = true) (hz : z.kind = 1) (h7 : kindL t.text ≠ 7) (hu : u.kind ≠ 4) :
    Calls Tryz.prog 30 #[.string ⟨tag.toArray⟩, .slice A (t :: s :: m :: z :: u :: d).length k] w (BPost (bodyR tag (t :: s :: m :: z :: u :: d)) w) := by
  obtain ⟨O, hO⟩ : ∃ O, bodyR tag (t :: s :: m :: z :: u :: d) = O := ⟨_, rfl⟩
  obtain ⟨n, hn⟩ : ∃ n, (t :: s :: m :: z :: u :: d).length = n := ⟨_, rfl⟩
  rw [hO, hn]
  have HS := Lib.hid hS
  have HTX := Lib.hid htx
  have hn0 : 0 < n := by rw [← hn]; simp
  have g0 : ((n : Int) == 0) = false := by simp; omega
  have g0' : ¬ (n : Int) = 0 := by omega
  have hn3 : 3 ≤ n := by rw [← hn]; simp
  have d3 : decide ((n : Int) < 3) = false := by simp; omega
  have d3' : decide (n < 3) = false := by simp; omega
  obtain ⟨b, off, rfl, hb0, _, _, _⟩ := tk_at HS.out (j := 0) (by simp)
  have HK : Hid (∀ W, Below w.heap.size w W → ∀ j (hj : j < (t :: s :: m :: z :: u :: d).length), W.cell? ⟨b, off + j * 3, none⟩ = some (.int .i64 ((t :: s :: m :: z :: u :: d)[j].kind : Int)) ∧ W.cell? ⟨b, off + j * 3 + 1, none⟩ = some (.string ⟨(t :: s :: m :: z :: u :: d)[j].text.toArray⟩) ∧ W.cell? ⟨b, off + j * 3 + 2, none⟩ = some (.int .i64 ((t :: s :: m :: z :: u :: d)[j].at_ : Int))) := Lib.hid (fun W hW j hj => by
    obtain ⟨b', off', he, _, h1, h2, h3⟩ := tk_at (HS.out.below hW) hj
    cases he
    exact ⟨h1, h2, h3⟩)
  have HO : Hid (O = none) := Lib.hid (by rw [← hO, bodyR_sto tag h4 h hs hm hp hz h7]; exact stoR_no4 _ hu)
  have m4 : ((m.kind : Int) != 4) = false := by rw [hm]; rfl
  have d5 : decide ((n : Int) < 5) = false := by rw [← hn]; simp; omega
  have d5' : decide (n < 5) = false := by rw [← hn]; simp
  have f3 : (((letN z.kind).toNat : Int) != 115) = false := by rw [hz]; decide
  have hn5 : 5 ≤ n := by rw [← hn]; simp
  have e7 : (((kindL t.text : Nat) : Int) == 7) = false := by simp; omega
  have e7' : ¬ (((kindL t.text : Nat) : Int) = 7) := by omega
  have hlu := (htx u (by simp)).2
  have RM := Lib.hid (fun W => rmode_any u.text (by omega) W)
  have u4 : ((u.kind : Int) != 4) = true := by simp; omega
  obtain ⟨mi, si, hmz⟩ : ∃ (mi : Int) (si : Bool), modeZ (modeL u.text) = .tuple #[.int .i64 mi, .bool si] := by
    unfold modeZ
    cases modeL u.text with
    | none => exact ⟨_, _, rfl⟩
    | some p => exact ⟨_, _, rfl⟩
  rw [hmz] at RM
  clear hmz hu
  clear h7 hz hlu
  have e6 : decide ((((kindL t.text : Nat) : Int) ≤ 6)) = false := by simp; omega
  have e6' : decide (kindL t.text ≤ 6) = false := by simp; omega
  have f2 : (((letN s.kind).toNat : Int) != 115) = false := by rw [hs]; decide
  have hmt := (htx m (by simp)).2
  have R2 := Lib.hid (fun W => refParse2_any m.text (by omega) W)
  have e0 : (((kindL t.text : Nat) : Int) == 0) = false := by simp; omega
  have e4 : decide ((((kindL t.text : Nat) : Int) ≤ 4)) = false := by simp; omega
  have e4' : decide (kindL t.text ≤ 4) = false := by simp; omega
  clear h
  have KK := Lib.hid (fun W (hW : Below w.heap.size w W) => kinds_any (some ⟨b, off, none⟩) k (t :: s :: m :: z :: u :: d) hl (fun x' hx' => (HTX.out x' hx').1) W (HS.out.below hW))
  obtain ⟨KS, hKS⟩ : ∃ KS : ByteArray, (⟨(kindsL (t :: s :: m :: z :: u :: d)).toArray⟩ : ByteArray) = KS := ⟨_, rfl⟩
  rw [hKS, hn] at KK
  have ks0 : KS.size = n := by rw [← hKS, ← hn]; show (kindsL (t :: s :: m :: z :: u :: d)).toArray.size = _; simp [kindsL]
  have ks1 : 1 < KS.size := by rw [ks0, ← hn]; simp
  have kb1 : KS[1]'ks1 = letN s.kind := by subst hKS; simp [ByteArray.getElem_eq_getElem_data, kindsL]
  have ks3 : 3 < KS.size := by rw [ks0, ← hn]; simp
  have kb3 : KS[3]'ks3 = letN z.kind := by subst hKS; simp [ByteArray.getElem_eq_getElem_data, kindsL]
  clear hO hS htx hl hn hKS hs hmt
  have f1 : ((t.kind : Int) != 4) = false := by rw [h4]; rfl
  have hlt := (HTX.out t (by simp)).2
  have KD := Lib.hid (fun W => refKind_any ⟨t.text.toArray⟩ (by show t.text.toArray.size ≤ _; simp; omega) W)
  have KD : Hid (∀ W, Calls Tryz.prog 21 #[.string ⟨t.text.toArray⟩] W fun e w' => e = .returned (.int .i64 (kindL t.text : Nat)) ∧ Below W.heap.size W w') := KD
  have HW := Lib.hid (BW.start w tag)
  go_enter Tryz.func30, Tryz.ntmps30
  go_upto_region 2 with (fail)
  generalize ((w.alloc (.cells #[.string ⟨#[]⟩, .int .i64 0, .string ⟨#[]⟩, .slice none 0 0, .int .i64 0, .int .i64 0, .bool false, .int .u8 0, .slice none 0 0] 27)).alloc (.cells #[.string ⟨tag.toArray⟩, .int .i64 0, .string ⟨#[]⟩, .slice none 0 0, .int .i64 0, .int .i64 0, .bool false, .int .u8 0, .slice none 0 0] 27)) = W2 at *
  obtain ⟨x0, x1, x2, x3, x4, x5, x6, x7, x8⟩ := cells9 HW.out.hx
  obtain ⟨z0, z1, z2, z3, z4, z5, z6, z7, z8⟩ := cells9 HW.out.hr
  have ur := fun j => Joins.unfrozen_of_block HW.out.hr j
  have ux := fun j => Joins.unfrozen_of_block HW.out.hx j
  have k0 : W2.cell? ⟨b, off, none⟩ = some (.int .i64 (t.kind : Int)) := (HK.out W2 HW.out.hb 0 (by simp)).1
  have k1 : W2.cell? ⟨b, off + 1, none⟩ = some (.string ⟨t.text.toArray⟩) := (HK.out W2 HW.out.hb 0 (by simp)).2.1
  generalize kindL t.text = kd at *
  generalize t.kind = tk at *
  go_wp2_with fail
  refine (KD.out _).mono ?_
  rintro e w3 ⟨rfl, hb3⟩
  have HW3 := Lib.hid (HW.out.below hb3)
  clear x0 x1 x2 x3 x4 x5 x6 x7 x8 z0 z1 z2 z3 z4 z5 z6 z7 z8 ur ux
  clear KD HW hb3 k0 k1
  obtain ⟨x0, x1, x2, x3, x4, x5, x6, x7, x8⟩ := cells9 HW3.out.hx
  obtain ⟨z0, z1, z2, z3, z4, z5, z6, z7, z8⟩ := cells9 HW3.out.hr
  have ur := fun j => Joins.unfrozen_of_block HW3.out.hr j
  have ux := fun j => Joins.unfrozen_of_block HW3.out.hx j
  have HW4 := Lib.hid (HW3.out.set1 (.int .i64 (kd : Int)))
  go_upto_region 5 with (fail)
  clear x0 x1 x2 x3 x4 x5 x6 x7 x8 z0 z1 z2 z3 z4 z5 z6 z7 z8 ur ux
  clear HW3
  generalize w3.setCell ⟨w.heap.size + 1, 1, none⟩ (.int .i64 (kd : Int)) = w4 at *
  obtain ⟨x0, x1, x2, x3, x4, x5, x6, x7, x8⟩ := cells9 HW4.out.hx
  obtain ⟨z0, z1, z2, z3, z4, z5, z6, z7, z8⟩ := cells9 HW4.out.hr
  have ur := fun j => Joins.unfrozen_of_block HW4.out.hr j
  have ux := fun j => Joins.unfrozen_of_block HW4.out.hx j
  go_wp2_with fail
  refine (KK.out _ HW4.out.hb).mono ?_
  rintro e w5 ⟨rfl, hb5⟩
  have HW5 := Lib.hid (HW4.out.below hb5)
  clear x0 x1 x2 x3 x4 x5 x6 x7 x8 z0 z1 z2 z3 z4 z5 z6 z7 z8 ur ux
  clear HW4 hb5 KK HTX
  obtain ⟨x0, x1, x2, x3, x4, x5, x6, x7, x8⟩ := cells9 HW5.out.hx
  obtain ⟨z0, z1, z2, z3, z4, z5, z6, z7, z8⟩ := cells9 HW5.out.hr
  have ur := fun j => Joins.unfrozen_of_block HW5.out.hr j
  have ux := fun j => Joins.unfrozen_of_block HW5.out.hx j
  generalize letN s.kind = y at *
  have p0 : w5.cell? ⟨b, off + 6, none⟩ = some (.int .i64 (m.kind : Int)) := (HK.out w5 HW5.out.hb 2 (by simp)).1
  have p1 : w5.cell? ⟨b, off + 7, none⟩ = some (.string ⟨m.text.toArray⟩) := (HK.out w5 HW5.out.hb 2 (by simp)).2.1
  have p2 : w5.cell? ⟨b, off + 8, none⟩ = some (.int .i64 (m.at_ : Int)) := (HK.out w5 HW5.out.hb 2 (by simp)).2.2
  have p3 : w5.cell? ⟨b, off + 6 + 1, none⟩ = some (.string ⟨m.text.toArray⟩) := p1
  have p4 : w5.cell? ⟨b, off + 6 + 2, none⟩ = some (.int .i64 (m.at_ : Int)) := p2
  generalize parseP m.text = pp at *
  go_wp2_with fail
  refine (R2.out _).mono ?_
  rintro e w6 ⟨v, rfl, hO, hb6⟩
  have HW6 := Lib.hid (HW5.out.below hb6)
  have hnx : ∀ b off s n c, v = .slice (some ⟨b, off, s⟩) n c → w.heap.size + 2 ≤ b := fun b off s n c e => by
    have := (hO.lt b (by rw [e]; rfl)).1
    have := HW5.out.hs
    omega
  obtain ⟨A', c', rfl⟩ := own_any hO
  have hle : pp.1.length ≤ c' := by
    rcases hO.2 with ⟨h1, h0⟩ | ⟨g, cap, cur, h1, _, _, hn, _⟩
    · omega
    · injection h1 with _ _ h3
      omega
  have HV := Lib.hid (SlAt.of_own encR_len hO)
  have HNX : Hid (∀ b off s, A' = some ⟨b, off, s⟩ → w.heap.size + 2 ≤ b) := Lib.hid (fun b off s e => hnx b off s _ _ (by rw [e]))
  have HLE := Lib.hid hle
  clear x0 x1 x2 x3 x4 x5 x6 x7 x8 z0 z1 z2 z3 z4 z5 z6 z7 z8 ur ux
  clear HW5 hb6 R2 hO hnx hle p0 p1 p2 p3 p4
  obtain ⟨x0, x1, x2, x3, x4, x5, x6, x7, x8⟩ := cells9 HW6.out.hx
  obtain ⟨z0, z1, z2, z3, z4, z5, z6, z7, z8⟩ := cells9 HW6.out.hr
  have ur := fun j => Joins.unfrozen_of_block HW6.out.hr j
  have ux := fun j => Joins.unfrozen_of_block HW6.out.hx j
  have p0 : w6.cell? ⟨b, off + 6, none⟩ = some (.int .i64 (m.kind : Int)) := (HK.out w6 HW6.out.hb 2 (by simp)).1
  have p1 : w6.cell? ⟨b, off + 7, none⟩ = some (.string ⟨m.text.toArray⟩) := (HK.out w6 HW6.out.hb 2 (by simp)).2.1
  have p2 : w6.cell? ⟨b, off + 8, none⟩ = some (.int .i64 (m.at_ : Int)) := (HK.out w6 HW6.out.hb 2 (by simp)).2.2
  have p3 : w6.cell? ⟨b, off + 6 + 1, none⟩ = some (.string ⟨m.text.toArray⟩) := p1
  have p4 : w6.cell? ⟨b, off + 6 + 2, none⟩ = some (.int .i64 (m.at_ : Int)) := p2
  obtain ⟨st, ok⟩ := pp
  simp only at hp
  subst hp
  simp only at HV HLE HW6 HO x0 x1 x2 x3 x4 x5 x6 x7 x8
  have HW7 := Lib.hid (HW6.out.set3 (.slice A' st.length c'))
  have HV7 := Lib.hid (slAt_setx HV.out HNX.out 3 (.slice A' st.length c'))
  go_upto_region 23 with (fail)
  clear x0 x1 x2 x3 x4 x5 x6 x7 x8 z0 z1 z2 z3 z4 z5 z6 z7 z8 ur ux
  clear HW6 HV p0 p1 p2 p3 p4
  generalize w6.setCell ⟨w.heap.size + 1, 3, none⟩ (.slice A' st.length c') = w7 at *
  obtain ⟨x0, x1, x2, x3, x4, x5, x6, x7, x8⟩ := cells9 HW7.out.hx
  obtain ⟨z0, z1, z2, z3, z4, z5, z6, z7, z8⟩ := cells9 HW7.out.hr
  have ur := fun j => Joins.unfrozen_of_block HW7.out.hr j
  have ux := fun j => Joins.unfrozen_of_block HW7.out.hx j
  clear hm
  generalize m.kind = mk at *
  generalize letN z.kind = zk at *
  have p0 : w7.cell? ⟨b, off + 12, none⟩ = some (.int .i64 (u.kind : Int)) := (HK.out w7 HW7.out.hb 4 (by simp)).1
  have p1 : w7.cell? ⟨b, off + 13, none⟩ = some (.string ⟨u.text.toArray⟩) := (HK.out w7 HW7.out.hb 4 (by simp)).2.1
  have p2 : w7.cell? ⟨b, off + 14, none⟩ = some (.int .i64 (u.at_ : Int)) := (HK.out w7 HW7.out.hb 4 (by simp)).2.2
  have p3 : w7.cell? ⟨b, off + 12 + 1, none⟩ = some (.string ⟨u.text.toArray⟩) := p1
  have p4 : w7.cell? ⟨b, off + 12 + 2, none⟩ = some (.int .i64 (u.at_ : Int)) := p2
  go_wp2_with fail
  refine (RM.out _).mono ?_
  rintro e w8 ⟨rfl, hb8⟩
  have HW8 := Lib.hid (HW7.out.below hb8)
  have HV8 := Lib.hid (HV7.out.below hb8)
  clear x0 x1 x2 x3 x4 x5 x6 x7 x8 z0 z1 z2 z3 z4 z5 z6 z7 z8 ur ux
  clear HW7 HV7 hb8 RM p0 p1 p2 p3 p4
  obtain ⟨x0, x1, x2, x3, x4, x5, x6, x7, x8⟩ := cells9 HW8.out.hx
  obtain ⟨z0, z1, z2, z3, z4, z5, z6, z7, z8⟩ := cells9 HW8.out.hr
  have ur := fun j => Joins.unfrozen_of_block HW8.out.hr j
  have ux := fun j => Joins.unfrozen_of_block HW8.out.hx j
  have p0 : w8.cell? ⟨b, off + 12, none⟩ = some (.int .i64 (u.kind : Int)) := (HK.out w8 HW8.out.hb 4 (by simp)).1
  have p1 : w8.cell? ⟨b, off + 13, none⟩ = some (.string ⟨u.text.toArray⟩) := (HK.out w8 HW8.out.hb 4 (by simp)).2.1
  have p2 : w8.cell? ⟨b, off + 14, none⟩ = some (.int .i64 (u.at_ : Int)) := (HK.out w8 HW8.out.hb 4 (by simp)).2.2
  have p3 : w8.cell? ⟨b, off + 12 + 1, none⟩ = some (.string ⟨u.text.toArray⟩) := p1
  have p4 : w8.cell? ⟨b, off + 12 + 2, none⟩ = some (.int .i64 (u.at_ : Int)) := p2
  clear HK HS HV8 HNX HLE
  generalize u.kind = uk at *
  go_wp2_with fail
  refine body_fin (q := false) HW8.out.hr ?_ ?_ ?_
  · rfl
  · rfl
  · exact .no HO.out (stC_below HW8.out.hb)

set_option maxRecDepth 100000 in
set_option maxHeartbeats 1000000 in
theorem body_sto2 {t s m z u : Tok} {d : List Tok} (A : Option Addr) (k : Nat) (tag : List UInt8) (hl : (t :: s :: m :: z :: u :: d).length ≤ 10000) (htx : ∀ x ∈ (t :: s :: m :: z :: u :: d), x.kind ≤ 6 ∧ x.text.length ≤ 9000) (w : World) (hS : SlAt encT 3 w A (t :: s :: m :: z :: u :: d)) (h4 : t.kind = 4) (h : 6 < kindL t.text) (hs : s.kind = 1) (hm : m.kind = 4) (hp : (parseP m.text).2 = true) (hz : z.kind = 1) (h7 : kindL t.text ≠ 7) (hu : u.kind = 4) (hmo : modeL u.text = none) :
    Calls Tryz.prog 30 #[.string ⟨tag.toArray⟩, .slice A (t :: s :: m :: z :: u :: d).length k] w (BPost (bodyR tag (t :: s :: m :: z :: u :: d)) w) := by
  obtain ⟨O, hO⟩ : ∃ O, bodyR tag (t :: s :: m :: z :: u :: d) = O := ⟨_, rfl⟩
  obtain ⟨n, hn⟩ : ∃ n, (t :: s :: m :: z :: u :: d).length = n := ⟨_, rfl⟩
  rw [hO, hn]
  have HS := Lib.hid hS
  have HTX := Lib.hid htx
  have hn0 : 0 < n := by rw [← hn]; simp
  have g0 : ((n : Int) == 0) = false := by simp; omega
  have g0' : ¬ (n : Int) = 0 := by omega
  have hn3 : 3 ≤ n := by rw [← hn]; simp
  have d3 : decide ((n : Int) < 3) = false := by simp; omega
  have d3' : decide (n < 3) = false := by simp; omega
  obtain ⟨b, off, rfl, hb0, _, _, _⟩ := tk_at HS.out (j := 0) (by simp)
  have HK : Hid (∀ W, Below w.heap.size w W → ∀ j (hj : j < (t :: s :: m :: z :: u :: d).length), W.cell? ⟨b, off + j * 3, none⟩ = some (.int .i64 ((t :: s :: m :: z :: u :: d)[j].kind : Int)) ∧ W.cell? ⟨b, off + j * 3 + 1, none⟩ = some (.string ⟨(t :: s :: m :: z :: u :: d)[j].text.toArray⟩) ∧ W.cell? ⟨b, off + j * 3 + 2, none⟩ = some (.int .i64 ((t :: s :: m :: z :: u :: d)[j].at_ : Int))) := Lib.hid (fun W hW j hj => by
    obtain ⟨b', off', he, _, h1, h2, h3⟩ := tk_at (HS.out.below hW) hj
    cases he
    exact ⟨h1, h2, h3⟩)
  have HO : Hid (O = none) := Lib.hid (by rw [← hO, bodyR_sto tag h4 h hs hm hp hz h7]; exact stoR_nomode _ hmo)
  have m4 : ((m.kind : Int) != 4) = false := by rw [hm]; rfl
  have d5 : decide ((n : Int) < 5) = false := by rw [← hn]; simp; omega
  have d5' : decide (n < 5) = false := by rw [← hn]; simp
  have f3 : (((letN z.kind).toNat : Int) != 115) = false := by rw [hz]; decide
  have hn5 : 5 ≤ n := by rw [← hn]; simp
  have e7 : (((kindL t.text : Nat) : Int) == 7) = false := by simp; omega
  have e7' : ¬ (((kindL t.text : Nat) : Int) = 7) := by omega
  have hlu := (htx u (by simp)).2
  have RM := Lib.hid (fun W => rmode_any u.text (by omega) W)
  have u4 : ((u.kind : Int) != 4) = false := by rw [hu]; rfl
  rw [hmo] at RM
  unfold modeZ at RM
  clear hmo hu
  clear h7 hz hlu
  have e6 : decide ((((kindL t.text : Nat) : Int) ≤ 6)) = false := by simp; omega
  have e6' : decide (kindL t.text ≤ 6) = false := by simp; omega
  have f2 : (((letN s.kind).toNat : Int) != 115) = false := by rw [hs]; decide
  have hmt := (htx m (by simp)).2
  have R2 := Lib.hid (fun W => refParse2_any m.text (by omega) W)
  have e0 : (((kindL t.text : Nat) : Int) == 0) = false := by simp; omega
  have e4 : decide ((((kindL t.text : Nat) : Int) ≤ 4)) = false := by simp; omega
  have e4' : decide (kindL t.text ≤ 4) = false := by simp; omega
  clear h
  have KK := Lib.hid (fun W (hW : Below w.heap.size w W) => kinds_any (some ⟨b, off, none⟩) k (t :: s :: m :: z :: u :: d) hl (fun x' hx' => (HTX.out x' hx').1) W (HS.out.below hW))
  obtain ⟨KS, hKS⟩ : ∃ KS : ByteArray, (⟨(kindsL (t :: s :: m :: z :: u :: d)).toArray⟩ : ByteArray) = KS := ⟨_, rfl⟩
  rw [hKS, hn] at KK
  have ks0 : KS.size = n := by rw [← hKS, ← hn]; show (kindsL (t :: s :: m :: z :: u :: d)).toArray.size = _; simp [kindsL]
  have ks1 : 1 < KS.size := by rw [ks0, ← hn]; simp
  have kb1 : KS[1]'ks1 = letN s.kind := by subst hKS; simp [ByteArray.getElem_eq_getElem_data, kindsL]
  have ks3 : 3 < KS.size := by rw [ks0, ← hn]; simp
  have kb3 : KS[3]'ks3 = letN z.kind := by subst hKS; simp [ByteArray.getElem_eq_getElem_data, kindsL]
  clear hO hS htx hl hn hKS hs hmt
  have f1 : ((t.kind : Int) != 4) = false := by rw [h4]; rfl
  have hlt := (HTX.out t (by simp)).2
  have KD := Lib.hid (fun W => refKind_any ⟨t.text.toArray⟩ (by show t.text.toArray.size ≤ _; simp; omega) W)
  have KD : Hid (∀ W, Calls Tryz.prog 21 #[.string ⟨t.text.toArray⟩] W fun e w' => e = .returned (.int .i64 (kindL t.text : Nat)) ∧ Below W.heap.size W w') := KD
  have HW := Lib.hid (BW.start w tag)
  go_enter Tryz.func30, Tryz.ntmps30
  go_upto_region 2 with (fail)
  generalize ((w.alloc (.cells #[.string ⟨#[]⟩, .int .i64 0, .string ⟨#[]⟩, .slice none 0 0, .int .i64 0, .int .i64 0, .bool false, .int .u8 0, .slice none 0 0] 27)).alloc (.cells #[.string ⟨tag.toArray⟩, .int .i64 0, .string ⟨#[]⟩, .slice none 0 0, .int .i64 0, .int .i64 0, .bool false, .int .u8 0, .slice none 0 0] 27)) = W2 at *
  obtain ⟨x0, x1, x2, x3, x4, x5, x6, x7, x8⟩ := cells9 HW.out.hx
  obtain ⟨z0, z1, z2, z3, z4, z5, z6, z7, z8⟩ := cells9 HW.out.hr
  have ur := fun j => Joins.unfrozen_of_block HW.out.hr j
  have ux := fun j => Joins.unfrozen_of_block HW.out.hx j
  have k0 : W2.cell? ⟨b, off, none⟩ = some (.int .i64 (t.kind : Int)) := (HK.out W2 HW.out.hb 0 (by simp)).1
  have k1 : W2.cell? ⟨b, off + 1, none⟩ = some (.string ⟨t.text.toArray⟩) := (HK.out W2 HW.out.hb 0 (by simp)).2.1
  generalize kindL t.text = kd at *
  generalize t.kind = tk at *
  go_wp2_with fail
  refine (KD.out _).mono ?_
  rintro e w3 ⟨rfl, hb3⟩
  have HW3 := Lib.hid (HW.out.below hb3)
  clear x0 x1 x2 x3 x4 x5 x6 x7 x8 z0 z1 z2 z3 z4 z5 z6 z7 z8 ur ux
  clear KD HW hb3 k0 k1
  obtain ⟨x0, x1, x2, x3, x4, x5, x6, x7, x8⟩ := cells9 HW3.out.hx
  obtain ⟨z0, z1, z2, z3, z4, z5, z6, z7, z8⟩ := cells9 HW3.out.hr
  have ur := fun j => Joins.unfrozen_of_block HW3.out.hr j
  have ux := fun j => Joins.unfrozen_of_block HW3.out.hx j
  have HW4 := Lib.hid (HW3.out.set1 (.int .i64 (kd : Int)))
  go_upto_region 5 with (fail)
  clear x0 x1 x2 x3 x4 x5 x6 x7 x8 z0 z1 z2 z3 z4 z5 z6 z7 z8 ur ux
  clear HW3
  generalize w3.setCell ⟨w.heap.size + 1, 1, none⟩ (.int .i64 (kd : Int)) = w4 at *
  obtain ⟨x0, x1, x2, x3, x4, x5, x6, x7, x8⟩ := cells9 HW4.out.hx
  obtain ⟨z0, z1, z2, z3, z4, z5, z6, z7, z8⟩ := cells9 HW4.out.hr
  have ur := fun j => Joins.unfrozen_of_block HW4.out.hr j
  have ux := fun j => Joins.unfrozen_of_block HW4.out.hx j
  go_wp2_with fail
  refine (KK.out _ HW4.out.hb).mono ?_
  rintro e w5 ⟨rfl, hb5⟩
  have HW5 := Lib.hid (HW4.out.below hb5)
  clear x0 x1 x2 x3 x4 x5 x6 x7 x8 z0 z1 z2 z3 z4 z5 z6 z7 z8 ur ux
  clear HW4 hb5 KK HTX
  obtain ⟨x0, x1, x2, x3, x4, x5, x6, x7, x8⟩ := cells9 HW5.out.hx
  obtain ⟨z0, z1, z2, z3, z4, z5, z6, z7, z8⟩ := cells9 HW5.out.hr
  have ur := fun j => Joins.unfrozen_of_block HW5.out.hr j
  have ux := fun j => Joins.unfrozen_of_block HW5.out.hx j
  generalize letN s.kind = y at *
  have p0 : w5.cell? ⟨b, off + 6, none⟩ = some (.int .i64 (m.kind : Int)) := (HK.out w5 HW5.out.hb 2 (by simp)).1
  have p1 : w5.cell? ⟨b, off + 7, none⟩ = some (.string ⟨m.text.toArray⟩) := (HK.out w5 HW5.out.hb 2 (by simp)).2.1
  have p2 : w5.cell? ⟨b, off + 8, none⟩ = some (.int .i64 (m.at_ : Int)) := (HK.out w5 HW5.out.hb 2 (by simp)).2.2
  have p3 : w5.cell? ⟨b, off + 6 + 1, none⟩ = some (.string ⟨m.text.toArray⟩) := p1
  have p4 : w5.cell? ⟨b, off + 6 + 2, none⟩ = some (.int .i64 (m.at_ : Int)) := p2
  generalize parseP m.text = pp at *
  go_wp2_with fail
  refine (R2.out _).mono ?_
  rintro e w6 ⟨v, rfl, hO, hb6⟩
  have HW6 := Lib.hid (HW5.out.below hb6)
  have hnx : ∀ b off s n c, v = .slice (some ⟨b, off, s⟩) n c → w.heap.size + 2 ≤ b := fun b off s n c e => by
    have := (hO.lt b (by rw [e]; rfl)).1
    have := HW5.out.hs
    omega
  obtain ⟨A', c', rfl⟩ := own_any hO
  have hle : pp.1.length ≤ c' := by
    rcases hO.2 with ⟨h1, h0⟩ | ⟨g, cap, cur, h1, _, _, hn, _⟩
    · omega
    · injection h1 with _ _ h3
      omega
  have HV := Lib.hid (SlAt.of_own encR_len hO)
  have HNX : Hid (∀ b off s, A' = some ⟨b, off, s⟩ → w.heap.size + 2 ≤ b) := Lib.hid (fun b off s e => hnx b off s _ _ (by rw [e]))
  have HLE := Lib.hid hle
  clear x0 x1 x2 x3 x4 x5 x6 x7 x8 z0 z1 z2 z3 z4 z5 z6 z7 z8 ur ux
  clear HW5 hb6 R2 hO hnx hle p0 p1 p2 p3 p4
  obtain ⟨x0, x1, x2, x3, x4, x5, x6, x7, x8⟩ := cells9 HW6.out.hx
  obtain ⟨z0, z1, z2, z3, z4, z5, z6, z7, z8⟩ := cells9 HW6.out.hr
  have ur := fun j => Joins.unfrozen_of_block HW6.out.hr j
  have ux := fun j => Joins.unfrozen_of_block HW6.out.hx j
  have p0 : w6.cell? ⟨b, off + 6, none⟩ = some (.int .i64 (m.kind : Int)) := (HK.out w6 HW6.out.hb 2 (by simp)).1
  have p1 : w6.cell? ⟨b, off + 7, none⟩ = some (.string ⟨m.text.toArray⟩) := (HK.out w6 HW6.out.hb 2 (by simp)).2.1
  have p2 : w6.cell? ⟨b, off + 8, none⟩ = some (.int .i64 (m.at_ : Int)) := (HK.out w6 HW6.out.hb 2 (by simp)).2.2
  have p3 : w6.cell? ⟨b, off + 6 + 1, none⟩ = some (.string ⟨m.text.toArray⟩) := p1
  have p4 : w6.cell? ⟨b, off + 6 + 2, none⟩ = some (.int .i64 (m.at_ : Int)) := p2
  obtain ⟨st, ok⟩ := pp
  simp only at hp
  subst hp
  simp only at HV HLE HW6 HO x0 x1 x2 x3 x4 x5 x6 x7 x8
  have HW7 := Lib.hid (HW6.out.set3 (.slice A' st.length c'))
  have HV7 := Lib.hid (slAt_setx HV.out HNX.out 3 (.slice A' st.length c'))
  go_upto_region 23 with (fail)
  clear x0 x1 x2 x3 x4 x5 x6 x7 x8 z0 z1 z2 z3 z4 z5 z6 z7 z8 ur ux
  clear HW6 HV p0 p1 p2 p3 p4
  generalize w6.setCell ⟨w.heap.size + 1, 3, none⟩ (.slice A' st.length c') = w7 at *
  obtain ⟨x0, x1, x2, x3, x4, x5, x6, x7, x8⟩ := cells9 HW7.out.hx
  obtain ⟨z0, z1, z2, z3, z4, z5, z6, z7, z8⟩ := cells9 HW7.out.hr
  have ur := fun j => Joins.unfrozen_of_block HW7.out.hr j
  have ux := fun j => Joins.unfrozen_of_block HW7.out.hx j
  clear hm
  generalize m.kind = mk at *
  generalize letN z.kind = zk at *
  have p0 : w7.cell? ⟨b, off + 12, none⟩ = some (.int .i64 (u.kind : Int)) := (HK.out w7 HW7.out.hb 4 (by simp)).1
  have p1 : w7.cell? ⟨b, off + 13, none⟩ = some (.string ⟨u.text.toArray⟩) := (HK.out w7 HW7.out.hb 4 (by simp)).2.1
  have p2 : w7.cell? ⟨b, off + 14, none⟩ = some (.int .i64 (u.at_ : Int)) := (HK.out w7 HW7.out.hb 4 (by simp)).2.2
  have p3 : w7.cell? ⟨b, off + 12 + 1, none⟩ = some (.string ⟨u.text.toArray⟩) := p1
  have p4 : w7.cell? ⟨b, off + 12 + 2, none⟩ = some (.int .i64 (u.at_ : Int)) := p2
  go_wp2_with fail
  refine (RM.out _).mono ?_
  rintro e w8 ⟨rfl, hb8⟩
  have HW8 := Lib.hid (HW7.out.below hb8)
  have HV8 := Lib.hid (HV7.out.below hb8)
  clear x0 x1 x2 x3 x4 x5 x6 x7 x8 z0 z1 z2 z3 z4 z5 z6 z7 z8 ur ux
  clear HW7 HV7 hb8 RM p0 p1 p2 p3 p4
  obtain ⟨x0, x1, x2, x3, x4, x5, x6, x7, x8⟩ := cells9 HW8.out.hx
  obtain ⟨z0, z1, z2, z3, z4, z5, z6, z7, z8⟩ := cells9 HW8.out.hr
  have ur := fun j => Joins.unfrozen_of_block HW8.out.hr j
  have ux := fun j => Joins.unfrozen_of_block HW8.out.hx j
  have p0 : w8.cell? ⟨b, off + 12, none⟩ = some (.int .i64 (u.kind : Int)) := (HK.out w8 HW8.out.hb 4 (by simp)).1
  have p1 : w8.cell? ⟨b, off + 13, none⟩ = some (.string ⟨u.text.toArray⟩) := (HK.out w8 HW8.out.hb 4 (by simp)).2.1
  have p2 : w8.cell? ⟨b, off + 14, none⟩ = some (.int .i64 (u.at_ : Int)) := (HK.out w8 HW8.out.hb 4 (by simp)).2.2
  have p3 : w8.cell? ⟨b, off + 12 + 1, none⟩ = some (.string ⟨u.text.toArray⟩) := p1
  have p4 : w8.cell? ⟨b, off + 12 + 2, none⟩ = some (.int .i64 (u.at_ : Int)) := p2
  clear HK HS HV8 HNX HLE
  generalize u.kind = uk at *
  go_wp2_with fail
  refine body_fin (q := false) HW8.out.hr ?_ ?_ ?_
  · rfl
  · rfl
  · exact .no HO.out (stC_below HW8.out.hb)

set_option maxRecDepth 100000 in
set_option maxHeartbeats 1000000 in
theorem body_sto3 {t s m z u : Tok} {d : List Tok} {mo : Nat} {si : Bool} (A : Option Addr) (k : Nat) (tag : List UInt8) (hl : (t :: s :: m :: z :: u :: d).length ≤ 10000) (htx : ∀ x ∈ (t :: s :: m :: z :: u :: d), x.kind ≤ 6 ∧ x.text.length ≤ 9000) (w : World) (hS : SlAt encT 3 w A (t :: s :: m :: z :: u :: d)) (h4 : t.kind = 4) (h : 6 < kindL t.text) (hs : s.kind = 1) (hm : m.kind = 4) (hp : (parseP m.text).2 = true) (hz : z.kind = 1) (h7 : kindL t.text ≠ 7) (hu : u.kind = 4) (hmo : modeL u.text = some (mo, si)) (hd : d.length < 2) :
    Calls Tryz.prog 30 #[.string ⟨tag.toArray⟩, .slice A (t :: s :: m :: z :: u :: d).length k] w (BPost (bodyR tag (t :: s :: m :: z :: u :: d)) w) := by
  obtain ⟨O, hO⟩ : ∃ O, bodyR tag (t :: s :: m :: z :: u :: d) = O := ⟨_, rfl⟩
  obtain ⟨n, hn⟩ : ∃ n, (t :: s :: m :: z :: u :: d).length = n := ⟨_, rfl⟩
  rw [hO, hn]
  have HS := Lib.hid hS
  have HTX := Lib.hid htx
  have hn0 : 0 < n := by rw [← hn]; simp
  have g0 : ((n : Int) == 0) = false := by simp; omega
  have g0' : ¬ (n : Int) = 0 := by omega
  have hn3 : 3 ≤ n := by rw [← hn]; simp
  have d3 : decide ((n : Int) < 3) = false := by simp; omega
  have d3' : decide (n < 3) = false := by simp; omega
  obtain ⟨b, off, rfl, hb0, _, _, _⟩ := tk_at HS.out (j := 0) (by simp)
  have HK : Hid (∀ W, Below w.heap.size w W → ∀ j (hj : j < (t :: s :: m :: z :: u :: d).length), W.cell? ⟨b, off + j * 3, none⟩ = some (.int .i64 ((t :: s :: m :: z :: u :: d)[j].kind : Int)) ∧ W.cell? ⟨b, off + j * 3 + 1, none⟩ = some (.string ⟨(t :: s :: m :: z :: u :: d)[j].text.toArray⟩) ∧ W.cell? ⟨b, off + j * 3 + 2, none⟩ = some (.int .i64 ((t :: s :: m :: z :: u :: d)[j].at_ : Int))) := Lib.hid (fun W hW j hj => by
    obtain ⟨b', off', he, _, h1, h2, h3⟩ := tk_at (HS.out.below hW) hj
    cases he
    exact ⟨h1, h2, h3⟩)
  have HO : Hid (O = none) := Lib.hid (by rw [← hO, bodyR_sto tag h4 h hs hm hp hz h7]; exact stoR_short _ hd)
  have m4 : ((m.kind : Int) != 4) = false := by rw [hm]; rfl
  have d5 : decide ((n : Int) < 5) = false := by rw [← hn]; simp; omega
  have d5' : decide (n < 5) = false := by rw [← hn]; simp
  have f3 : (((letN z.kind).toNat : Int) != 115) = false := by rw [hz]; decide
  have hn5 : 5 ≤ n := by rw [← hn]; simp
  have e7 : (((kindL t.text : Nat) : Int) == 7) = false := by simp; omega
  have e7' : ¬ (((kindL t.text : Nat) : Int) = 7) := by omega
  have hlu := (htx u (by simp)).2
  have RM := Lib.hid (fun W => rmode_any u.text (by omega) W)
  have u4 : ((u.kind : Int) != 4) = false := by rw [hu]; rfl
  rw [hmo] at RM
  unfold modeZ at RM
  have l0 : decide (((mo : Nat) : Int) < 0) = false := by simp
  have d7 : decide ((n : Int) < 7) = true := by rw [← hn]; simp at hd ⊢; omega
  have d7' : decide (n < 7) = true := by rw [← hn]; simp at hd ⊢; omega
  clear hmo hu hd
  clear h7 hz hlu
  have e6 : decide ((((kindL t.text : Nat) : Int) ≤ 6)) = false := by simp; omega
  have e6' : decide (kindL t.text ≤ 6) = false := by simp; omega
  have f2 : (((letN s.kind).toNat : Int) != 115) = false := by rw [hs]; decide
  have hmt := (htx m (by simp)).2
  have R2 := Lib.hid (fun W => refParse2_any m.text (by omega) W)
  have e0 : (((kindL t.text : Nat) : Int) == 0) = false := by simp; omega
  have e4 : decide ((((kindL t.text : Nat) : Int) ≤ 4)) = false := by simp; omega
  have e4' : decide (kindL t.text ≤ 4) = false := by simp; omega
  clear h
  have KK := Lib.hid (fun W (hW : Below w.heap.size w W) => kinds_any (some ⟨b, off, none⟩) k (t :: s :: m :: z :: u :: d) hl (fun x' hx' => (HTX.out x' hx').1) W (HS.out.below hW))
  obtain ⟨KS, hKS⟩ : ∃ KS : ByteArray, (⟨(kindsL (t :: s :: m :: z :: u :: d)).toArray⟩ : ByteArray) = KS := ⟨_, rfl⟩
  rw [hKS, hn] at KK
  have ks0 : KS.size = n := by rw [← hKS, ← hn]; show (kindsL (t :: s :: m :: z :: u :: d)).toArray.size = _; simp [kindsL]
  have ks1 : 1 < KS.size := by rw [ks0, ← hn]; simp
  have kb1 : KS[1]'ks1 = letN s.kind := by subst hKS; simp [ByteArray.getElem_eq_getElem_data, kindsL]
  have ks3 : 3 < KS.size := by rw [ks0, ← hn]; simp
  have kb3 : KS[3]'ks3 = letN z.kind := by subst hKS; simp [ByteArray.getElem_eq_getElem_data, kindsL]
  clear hO hS htx hl hn hKS hs hmt
  have f1 : ((t.kind : Int) != 4) = false := by rw [h4]; rfl
  have hlt := (HTX.out t (by simp)).2
  have KD := Lib.hid (fun W => refKind_any ⟨t.text.toArray⟩ (by show t.text.toArray.size ≤ _; simp; omega) W)
  have KD : Hid (∀ W, Calls Tryz.prog 21 #[.string ⟨t.text.toArray⟩] W fun e w' => e = .returned (.int .i64 (kindL t.text : Nat)) ∧ Below W.heap.size W w') := KD
  have HW := Lib.hid (BW.start w tag)
  go_enter Tryz.func30, Tryz.ntmps30
  go_upto_region 2 with (fail)
  generalize ((w.alloc (.cells #[.string ⟨#[]⟩, .int .i64 0, .string ⟨#[]⟩, .slice none 0 0, .int .i64 0, .int .i64 0, .bool false, .int .u8 0, .slice none 0 0] 27)).alloc (.cells #[.string ⟨tag.toArray⟩, .int .i64 0, .string ⟨#[]⟩, .slice none 0 0, .int .i64 0, .int .i64 0, .bool false, .int .u8 0, .slice none 0 0] 27)) = W2 at *
  obtain ⟨x0, x1, x2, x3, x4, x5, x6, x7, x8⟩ := cells9 HW.out.hx
  obtain ⟨z0, z1, z2, z3, z4, z5, z6, z7, z8⟩ := cells9 HW.out.hr
  have ur := fun j => Joins.unfrozen_of_block HW.out.hr j
  have ux := fun j => Joins.unfrozen_of_block HW.out.hx j
  have k0 : W2.cell? ⟨b, off, none⟩ = some (.int .i64 (t.kind : Int)) := (HK.out W2 HW.out.hb 0 (by simp)).1
  have k1 : W2.cell? ⟨b, off + 1, none⟩ = some (.string ⟨t.text.toArray⟩) := (HK.out W2 HW.out.hb 0 (by simp)).2.1
  generalize kindL t.text = kd at *
  generalize t.kind = tk at *
  go_wp2_with fail
  refine (KD.out _).mono ?_
  rintro e w3 ⟨rfl, hb3⟩
  have HW3 := Lib.hid (HW.out.below hb3)
  clear x0 x1 x2 x3 x4 x5 x6 x7 x8 z0 z1 z2 z3 z4 z5 z6 z7 z8 ur ux
  clear KD HW hb3 k0 k1
  obtain ⟨x0, x1, x2, x3, x4, x5, x6, x7, x8⟩ := cells9 HW3.out.hx
  obtain ⟨z0, z1, z2, z3, z4, z5, z6, z7, z8⟩ := cells9 HW3.out.hr
  have ur := fun j => Joins.unfrozen_of_block HW3.out.hr j
  have ux := fun j => Joins.unfrozen_of_block HW3.out.hx j
  have HW4 := Lib.hid (HW3.out.set1 (.int .i64 (kd : Int)))
  go_upto_region 5 with (fail)
  clear x0 x1 x2 x3 x4 x5 x6 x7 x8 z0 z1 z2 z3 z4 z5 z6 z7 z8 ur ux
  clear HW3
  generalize w3.setCell ⟨w.heap.size + 1, 1, none⟩ (.int .i64 (kd : Int)) = w4 at *
  obtain ⟨x0, x1, x2, x3, x4, x5, x6, x7, x8⟩ := cells9 HW4.out.hx
  obtain ⟨z0, z1, z2, z3, z4, z5, z6, z7, z8⟩ := cells9 HW4.out.hr
  have ur := fun j => Joins.unfrozen_of_block HW4.out.hr j
  have ux := fun j => Joins.unfrozen_of_block HW4.out.hx j
  go_wp2_with fail
  refine (KK.out _ HW4.out.hb).mono ?_
  rintro e w5 ⟨rfl, hb5⟩
  have HW5 := Lib.hid (HW4.out.below hb5)
  clear x0 x1 x2 x3 x4 x5 x6 x7 x8 z0 z1 z2 z3 z4 z5 z6 z7 z8 ur ux
  clear HW4 hb5 KK HTX
  obtain ⟨x0, x1, x2, x3, x4, x5, x6, x7, x8⟩ := cells9 HW5.out.hx
  obtain ⟨z0, z1, z2, z3, z4, z5, z6, z7, z8⟩ := cells9 HW5.out.hr
  have ur := fun j => Joins.unfrozen_of_block HW5.out.hr j
  have ux := fun j => Joins.unfrozen_of_block HW5.out.hx j
  generalize letN s.kind = y at *
  have p0 : w5.cell? ⟨b, off + 6, none⟩ = some (.int .i64 (m.kind : Int)) := (HK.out w5 HW5.out.hb 2 (by simp)).1
  have p1 : w5.cell? ⟨b, off + 7, none⟩ = some (.string ⟨m.text.toArray⟩) := (HK.out w5 HW5.out.hb 2 (by simp)).2.1
  have p2 : w5.cell? ⟨b, off + 8, none⟩ = some (.int .i64 (m.at_ : Int)) := (HK.out w5 HW5.out.hb 2 (by simp)).2.2
  have p3 : w5.cell? ⟨b, off + 6 + 1, none⟩ = some (.string ⟨m.text.toArray⟩) := p1
  have p4 : w5.cell? ⟨b, off + 6 + 2, none⟩ = some (.int .i64 (m.at_ : Int)) := p2
  generalize parseP m.text = pp at *
  go_wp2_with fail
  refine (R2.out _).mono ?_
  rintro e w6 ⟨v, rfl, hO, hb6⟩
  have HW6 := Lib.hid (HW5.out.below hb6)
  have hnx : ∀ b off s n c, v = .slice (some ⟨b, off, s⟩) n c → w.heap.size + 2 ≤ b := fun b off s n c e => by
    have := (hO.lt b (by rw [e]; rfl)).1
    have := HW5.out.hs
    omega
  obtain ⟨A', c', rfl⟩ := own_any hO
  have hle : pp.1.length ≤ c' := by
    rcases hO.2 with ⟨h1, h0⟩ | ⟨g, cap, cur, h1, _, _, hn, _⟩
    · omega
    · injection h1 with _ _ h3
      omega
  have HV := Lib.hid (SlAt.of_own encR_len hO)
  have HNX : Hid (∀ b off s, A' = some ⟨b, off, s⟩ → w.heap.size + 2 ≤ b) := Lib.hid (fun b off s e => hnx b off s _ _ (by rw [e]))
  have HLE := Lib.hid hle
  clear x0 x1 x2 x3 x4 x5 x6 x7 x8 z0 z1 z2 z3 z4 z5 z6 z7 z8 ur ux
  clear HW5 hb6 R2 hO hnx hle p0 p1 p2 p3 p4
  obtain ⟨x0, x1, x2, x3, x4, x5, x6, x7, x8⟩ := cells9 HW6.out.hx
  obtain ⟨z0, z1, z2, z3, z4, z5, z6, z7, z8⟩ := cells9 HW6.out.hr
  have ur := fun j => Joins.unfrozen_of_block HW6.out.hr j
  have ux := fun j => Joins.unfrozen_of_block HW6.out.hx j
  have p0 : w6.cell? ⟨b, off + 6, none⟩ = some (.int .i64 (m.kind : Int)) := (HK.out w6 HW6.out.hb 2 (by simp)).1
  have p1 : w6.cell? ⟨b, off + 7, none⟩ = some (.string ⟨m.text.toArray⟩) := (HK.out w6 HW6.out.hb 2 (by simp)).2.1
  have p2 : w6.cell? ⟨b, off + 8, none⟩ = some (.int .i64 (m.at_ : Int)) := (HK.out w6 HW6.out.hb 2 (by simp)).2.2
  have p3 : w6.cell? ⟨b, off + 6 + 1, none⟩ = some (.string ⟨m.text.toArray⟩) := p1
  have p4 : w6.cell? ⟨b, off + 6 + 2, none⟩ = some (.int .i64 (m.at_ : Int)) := p2
  obtain ⟨st, ok⟩ := pp
  simp only at hp
  subst hp
  simp only at HV HLE HW6 HO x0 x1 x2 x3 x4 x5 x6 x7 x8
  have HW7 := Lib.hid (HW6.out.set3 (.slice A' st.length c'))
  have HV7 := Lib.hid (slAt_setx HV.out HNX.out 3 (.slice A' st.length c'))
  go_upto_region 23 with (fail)
  clear x0 x1 x2 x3 x4 x5 x6 x7 x8 z0 z1 z2 z3 z4 z5 z6 z7 z8 ur ux
  clear HW6 HV p0 p1 p2 p3 p4
  generalize w6.setCell ⟨w.heap.size + 1, 3, none⟩ (.slice A' st.length c') = w7 at *
  obtain ⟨x0, x1, x2, x3, x4, x5, x6, x7, x8⟩ := cells9 HW7.out.hx
  obtain ⟨z0, z1, z2, z3, z4, z5, z6, z7, z8⟩ := cells9 HW7.out.hr
  have ur := fun j => Joins.unfrozen_of_block HW7.out.hr j
  have ux := fun j => Joins.unfrozen_of_block HW7.out.hx j
  clear hm
  generalize m.kind = mk at *
  generalize letN z.kind = zk at *
  have p0 : w7.cell? ⟨b, off + 12, none⟩ = some (.int .i64 (u.kind : Int)) := (HK.out w7 HW7.out.hb 4 (by simp)).1
  have p1 : w7.cell? ⟨b, off + 13, none⟩ = some (.string ⟨u.text.toArray⟩) := (HK.out w7 HW7.out.hb 4 (by simp)).2.1
  have p2 : w7.cell? ⟨b, off + 14, none⟩ = some (.int .i64 (u.at_ : Int)) := (HK.out w7 HW7.out.hb 4 (by simp)).2.2
  have p3 : w7.cell? ⟨b, off + 12 + 1, none⟩ = some (.string ⟨u.text.toArray⟩) := p1
  have p4 : w7.cell? ⟨b, off + 12 + 2, none⟩ = some (.int .i64 (u.at_ : Int)) := p2
  go_wp2_with fail
  refine (RM.out _).mono ?_
  rintro e w8 ⟨rfl, hb8⟩
  have HW8 := Lib.hid (HW7.out.below hb8)
  have HV8 := Lib.hid (HV7.out.below hb8)
  clear x0 x1 x2 x3 x4 x5 x6 x7 x8 z0 z1 z2 z3 z4 z5 z6 z7 z8 ur ux
  clear HW7 HV7 hb8 RM p0 p1 p2 p3 p4
  obtain ⟨x0, x1, x2, x3, x4, x5, x6, x7, x8⟩ := cells9 HW8.out.hx
  obtain ⟨z0, z1, z2, z3, z4, z5, z6, z7, z8⟩ := cells9 HW8.out.hr
  have ur := fun j => Joins.unfrozen_of_block HW8.out.hr j
  have ux := fun j => Joins.unfrozen_of_block HW8.out.hx j
  have p0 : w8.cell? ⟨b, off + 12, none⟩ = some (.int .i64 (u.kind : Int)) := (HK.out w8 HW8.out.hb 4 (by simp)).1
  have p1 : w8.cell? ⟨b, off + 13, none⟩ = some (.string ⟨u.text.toArray⟩) := (HK.out w8 HW8.out.hb 4 (by simp)).2.1
  have p2 : w8.cell? ⟨b, off + 14, none⟩ = some (.int .i64 (u.at_ : Int)) := (HK.out w8 HW8.out.hb 4 (by simp)).2.2
  have p3 : w8.cell? ⟨b, off + 12 + 1, none⟩ = some (.string ⟨u.text.toArray⟩) := p1
  have p4 : w8.cell? ⟨b, off + 12 + 2, none⟩ = some (.int .i64 (u.at_ : Int)) := p2
  clear HK HS HV8 HNX HLE
  generalize u.kind = uk at *
  go_wp2_with fail
  refine body_fin (q := false) HW8.out.hr ?_ ?_ ?_
  · rfl
  · rfl
  · exact .no HO.out (stC_below HW8.out.hb)

set_option maxRecDepth 100000 in
set_option maxHeartbeats 1000000 in
theorem body_sto4 {t s m z u v g : Tok} {d : List Tok} {mo : Nat} {si : Bool} (A : Option Addr) (k : Nat) (tag : List UInt8) (hl : (t :: s :: m :: z :: u :: v :: g :: d).length ≤ 10000) (htx : ∀ x ∈ (t :: s :: m :: z :: u :: v :: g :: d), x.kind ≤ 6 ∧ x.text.length ≤ 9000) (w : World) (hS : SlAt encT 3 w A (t :: s :: m :: z :: u :: v :: g :: d)) (h4 : t.kind = 4) (h : 6 < kindL t.text) (hs : s.kind = 1) (hm : m.kind = 4) (hp : (parseP m.text).2 = true) (hz : z.kind = 1) (h7 : kindL t.text ≠ 7) (hu : u.kind = 4) (hmo : modeL u.text = some (mo, si)) (hv : v.kind ≠ 1) :
    Calls Tryz.prog 30 #[.string ⟨tag.toArray⟩, .slice A (t :: s :: m :: z :: u :: v :: g :: d).length k] w (BPost (bodyR tag (t :: s :: m :: z :: u :: v :: g :: d)) w) := by
  obtain ⟨O, hO⟩ : ∃ O, bodyR tag (t :: s :: m :: z :: u :: v :: g :: d) = O := ⟨_, rfl⟩
  obtain ⟨n, hn⟩ : ∃ n, (t :: s :: m :: z :: u :: v :: g :: d).length = n := ⟨_, rfl⟩
  rw [hO, hn]
  have HS := Lib.hid hS
  have HTX := Lib.hid htx
  have hn0 : 0 < n := by rw [← hn]; simp
  have g0 : ((n : Int) == 0) = false := by simp; omega
  have g0' : ¬ (n : Int) = 0 := by omega
  have hn3 : 3 ≤ n := by rw [← hn]; simp
  have d3 : decide ((n : Int) < 3) = false := by simp; omega
  have d3' : decide (n < 3) = false := by simp; omega
  obtain ⟨b, off, rfl, hb0, _, _, _⟩ := tk_at HS.out (j := 0) (by simp)
  have HK : Hid (∀ W, Below w.heap.size w W → ∀ j (hj : j < (t :: s :: m :: z :: u :: v :: g :: d).length), W.cell? ⟨b, off + j * 3, none⟩ = some (.int .i64 ((t :: s :: m :: z :: u :: v :: g :: d)[j].kind : Int)) ∧ W.cell? ⟨b, off + j * 3 + 1, none⟩ = some (.string ⟨(t :: s :: m :: z :: u :: v :: g :: d)[j].text.toArray⟩) ∧ W.cell? ⟨b, off + j * 3 + 2, none⟩ = some (.int .i64 ((t :: s :: m :: z :: u :: v :: g :: d)[j].at_ : Int))) := Lib.hid (fun W hW j hj => by
    obtain ⟨b', off', he, _, h1, h2, h3⟩ := tk_at (HS.out.below hW) hj
    cases he
    exact ⟨h1, h2, h3⟩)
  have HO : Hid (O = none) := Lib.hid (by rw [← hO, bodyR_sto tag h4 h hs hm hp hz h7]; exact stoR_nos _ hv)
  have m4 : ((m.kind : Int) != 4) = false := by rw [hm]; rfl
  have d5 : decide ((n : Int) < 5) = false := by rw [← hn]; simp; omega
  have d5' : decide (n < 5) = false := by rw [← hn]; simp
  have f3 : (((letN z.kind).toNat : Int) != 115) = false := by rw [hz]; decide
  have hn5 : 5 ≤ n := by rw [← hn]; simp
  have e7 : (((kindL t.text : Nat) : Int) == 7) = false := by simp; omega
  have e7' : ¬ (((kindL t.text : Nat) : Int) = 7) := by omega
  have hlu := (htx u (by simp)).2
  have RM := Lib.hid (fun W => rmode_any u.text (by omega) W)
  have u4 : ((u.kind : Int) != 4) = false := by rw [hu]; rfl
  rw [hmo] at RM
  unfold modeZ at RM
  have l0 : decide (((mo : Nat) : Int) < 0) = false := by simp
  have d7 : decide ((n : Int) < 7) = false := by rw [← hn]; simp; omega
  have d7' : decide (n < 7) = false := by rw [← hn]; simp
  have f5 : (((letN v.kind).toNat : Int) != 115) = true := by
    have hv6 := (htx v (by simp)).1
    have : ¬ letN v.kind = 115 := fun e => hv ((letN_s hv6).1 e)
    have : ¬ (letN v.kind).toNat = 115 := fun e => this (UInt8.toNat_inj.1 e)
    simp; omega
  clear hmo hu hv
  clear h7 hz hlu
  have e6 : decide ((((kindL t.text : Nat) : Int) ≤ 6)) = false := by simp; omega
  have e6' : decide (kindL t.text ≤ 6) = false := by simp; omega
  have f2 : (((letN s.kind).toNat : Int) != 115) = false := by rw [hs]; decide
  have hmt := (htx m (by simp)).2
  have R2 := Lib.hid (fun W => refParse2_any m.text (by omega) W)
  have e0 : (((kindL t.text : Nat) : Int) == 0) = false := by simp; omega
  have e4 : decide ((((kindL t.text : Nat) : Int) ≤ 4)) = false := by simp; omega
  have e4' : decide (kindL t.text ≤ 4) = false := by simp; omega
  clear h
  have KK := Lib.hid (fun W (hW : Below w.heap.size w W) => kinds_any (some ⟨b, off, none⟩) k (t :: s :: m :: z :: u :: v :: g :: d) hl (fun x' hx' => (HTX.out x' hx').1) W (HS.out.below hW))
  obtain ⟨KS, hKS⟩ : ∃ KS : ByteArray, (⟨(kindsL (t :: s :: m :: z :: u :: v :: g :: d)).toArray⟩ : ByteArray) = KS := ⟨_, rfl⟩
  rw [hKS, hn] at KK
  have ks0 : KS.size = n := by rw [← hKS, ← hn]; show (kindsL (t :: s :: m :: z :: u :: v :: g :: d)).toArray.size = _; simp [kindsL]
  have ks1 : 1 < KS.size := by rw [ks0, ← hn]; simp
  have kb1 : KS[1]'ks1 = letN s.kind := by subst hKS; simp [ByteArray.getElem_eq_getElem_data, kindsL]
  have ks3 : 3 < KS.size := by rw [ks0, ← hn]; simp
  have kb3 : KS[3]'ks3 = letN z.kind := by subst hKS; simp [ByteArray.getElem_eq_getElem_data, kindsL]
  have ks5 : 5 < KS.size := by rw [ks0, ← hn]; simp
  have kb5 : KS[5]'ks5 = letN v.kind := by subst hKS; simp [ByteArray.getElem_eq_getElem_data, kindsL]
  clear hO hS htx hl hn hKS hs hmt
  have f1 : ((t.kind : Int) != 4) = false := by rw [h4]; rfl
  have hlt := (HTX.out t (by simp)).2
  have KD := Lib.hid (fun W => refKind_any ⟨t.text.toArray⟩ (by show t.text.toArray.size ≤ _; simp; omega) W)
  have KD : Hid (∀ W, Calls Tryz.prog 21 #[.string ⟨t.text.toArray⟩] W fun e w' => e = .returned (.int .i64 (kindL t.text : Nat)) ∧ Below W.heap.size W w') := KD
  have HW := Lib.hid (BW.start w tag)
  go_enter Tryz.func30, Tryz.ntmps30
  go_upto_region 2 with (fail)
  generalize ((w.alloc (.cells #[.string ⟨#[]⟩, .int .i64 0, .string ⟨#[]⟩, .slice none 0 0, .int .i64 0, .int .i64 0, .bool false, .int .u8 0, .slice none 0 0] 27)).alloc (.cells #[.string ⟨tag.toArray⟩, .int .i64 0, .string ⟨#[]⟩, .slice none 0 0, .int .i64 0, .int .i64 0, .bool false, .int .u8 0, .slice none 0 0] 27)) = W2 at *
  obtain ⟨x0, x1, x2, x3, x4, x5, x6, x7, x8⟩ := cells9 HW.out.hx
  obtain ⟨z0, z1, z2, z3, z4, z5, z6, z7, z8⟩ := cells9 HW.out.hr
  have ur := fun j => Joins.unfrozen_of_block HW.out.hr j
  have ux := fun j => Joins.unfrozen_of_block HW.out.hx j
  have k0 : W2.cell? ⟨b, off, none⟩ = some (.int .i64 (t.kind : Int)) := (HK.out W2 HW.out.hb 0 (by simp)).1
  have k1 : W2.cell? ⟨b, off + 1, none⟩ = some (.string ⟨t.text.toArray⟩) := (HK.out W2 HW.out.hb 0 (by simp)).2.1
  generalize kindL t.text = kd at *
  generalize t.kind = tk at *
  go_wp2_with fail
  refine (KD.out _).mono ?_
  rintro e w3 ⟨rfl, hb3⟩
  have HW3 := Lib.hid (HW.out.below hb3)
  clear x0 x1 x2 x3 x4 x5 x6 x7 x8 z0 z1 z2 z3 z4 z5 z6 z7 z8 ur ux
  clear KD HW hb3 k0 k1
  obtain ⟨x0, x1, x2, x3, x4, x5, x6, x7, x8⟩ := cells9 HW3.out.hx
  obtain ⟨z0, z1, z2, z3, z4, z5, z6, z7, z8⟩ := cells9 HW3.out.hr
  have ur := fun j => Joins.unfrozen_of_block HW3.out.hr j
  have ux := fun j => Joins.unfrozen_of_block HW3.out.hx j
  have HW4 := Lib.hid (HW3.out.set1 (.int .i64 (kd : Int)))
  go_upto_region 5 with (fail)
  clear x0 x1 x2 x3 x4 x5 x6 x7 x8 z0 z1 z2 z3 z4 z5 z6 z7 z8 ur ux
  clear HW3
  generalize w3.setCell ⟨w.heap.size + 1, 1, none⟩ (.int .i64 (kd : Int)) = w4 at *
  obtain ⟨x0, x1, x2, x3, x4, x5, x6, x7, x8⟩ := cells9 HW4.out.hx
  obtain ⟨z0, z1, z2, z3, z4, z5, z6, z7, z8⟩ := cells9 HW4.out.hr
  have ur := fun j => Joins.unfrozen_of_block HW4.out.hr j
  have ux := fun j => Joins.unfrozen_of_block HW4.out.hx j
  go_wp2_with fail
  refine (KK.out _ HW4.out.hb).mono ?_
  rintro e w5 ⟨rfl, hb5⟩
  have HW5 := Lib.hid (HW4.out.below hb5)
  clear x0 x1 x2 x3 x4 x5 x6 x7 x8 z0 z1 z2 z3 z4 z5 z6 z7 z8 ur ux
  clear HW4 hb5 KK HTX
  obtain ⟨x0, x1, x2, x3, x4, x5, x6, x7, x8⟩ := cells9 HW5.out.hx
  obtain ⟨z0, z1, z2, z3, z4, z5, z6, z7, z8⟩ := cells9 HW5.out.hr
  have ur := fun j => Joins.unfrozen_of_block HW5.out.hr j
  have ux := fun j => Joins.unfrozen_of_block HW5.out.hx j
  generalize letN s.kind = y at *
  have p0 : w5.cell? ⟨b, off + 6, none⟩ = some (.int .i64 (m.kind : Int)) := (HK.out w5 HW5.out.hb 2 (by simp)).1
  have p1 : w5.cell? ⟨b, off + 7, none⟩ = some (.string ⟨m.text.toArray⟩) := (HK.out w5 HW5.out.hb 2 (by simp)).2.1
  have p2 : w5.cell? ⟨b, off + 8, none⟩ = some (.int .i64 (m.at_ : Int)) := (HK.out w5 HW5.out.hb 2 (by simp)).2.2
  have p3 : w5.cell? ⟨b, off + 6 + 1, none⟩ = some (.string ⟨m.text.toArray⟩) := p1
  have p4 : w5.cell? ⟨b, off + 6 + 2, none⟩ = some (.int .i64 (m.at_ : Int)) := p2
  generalize parseP m.text = pp at *
  go_wp2_with fail
  refine (R2.out _).mono ?_
  rintro e w6 ⟨v, rfl, hO, hb6⟩
  have HW6 := Lib.hid (HW5.out.below hb6)
  have hnx : ∀ b off s n c, v = .slice (some ⟨b, off, s⟩) n c → w.heap.size + 2 ≤ b := fun b off s n c e => by
    have := (hO.lt b (by rw [e]; rfl)).1
    have := HW5.out.hs
    omega
  obtain ⟨A', c', rfl⟩ := own_any hO
  have hle : pp.1.length ≤ c' := by
    rcases hO.2 with ⟨h1, h0⟩ | ⟨g, cap, cur, h1, _, _, hn, _⟩
    · omega
    · injection h1 with _ _ h3
      omega
  have HV := Lib.hid (SlAt.of_own encR_len hO)
  have HNX : Hid (∀ b off s, A' = some ⟨b, off, s⟩ → w.heap.size + 2 ≤ b) := Lib.hid (fun b off s e => hnx b off s _ _ (by rw [e]))
  have HLE := Lib.hid hle
  clear x0 x1 x2 x3 x4 x5 x6 x7 x8 z0 z1 z2 z3 z4 z5 z6 z7 z8 ur ux
  clear HW5 hb6 R2 hO hnx hle p0 p1 p2 p3 p4
  obtain ⟨x0, x1, x2, x3, x4, x5, x6, x7, x8⟩ := cells9 HW6.out.hx
  obtain ⟨z0, z1, z2, z3, z4, z5, z6, z7, z8⟩ := cells9 HW6.out.hr
  have ur := fun j => Joins.unfrozen_of_block HW6.out.hr j
  have ux := fun j => Joins.unfrozen_of_block HW6.out.hx j
  have p0 : w6.cell? ⟨b, off + 6, none⟩ = some (.int .i64 (m.kind : Int)) := (HK.out w6 HW6.out.hb 2 (by simp)).1
  have p1 : w6.cell? ⟨b, off + 7, none⟩ = some (.string ⟨m.text.toArray⟩) := (HK.out w6 HW6.out.hb 2 (by simp)).2.1
  have p2 : w6.cell? ⟨b, off + 8, none⟩ = some (.int .i64 (m.at_ : Int)) := (HK.out w6 HW6.out.hb 2 (by simp)).2.2
  have p3 : w6.cell? ⟨b, off + 6 + 1, none⟩ = some (.string ⟨m.text.toArray⟩) := p1
  have p4 : w6.cell? ⟨b, off + 6 + 2, none⟩ = some (.int .i64 (m.at_ : Int)) := p2
  obtain ⟨st, ok⟩ := pp
  simp only at hp
  subst hp
  simp only at HV HLE HW6 HO x0 x1 x2 x3 x4 x5 x6 x7 x8
  have HW7 := Lib.hid (HW6.out.set3 (.slice A' st.length c'))
  have HV7 := Lib.hid (slAt_setx HV.out HNX.out 3 (.slice A' st.length c'))
  go_upto_region 23 with (fail)
  clear x0 x1 x2 x3 x4 x5 x6 x7 x8 z0 z1 z2 z3 z4 z5 z6 z7 z8 ur ux
  clear HW6 HV p0 p1 p2 p3 p4
  generalize w6.setCell ⟨w.heap.size + 1, 3, none⟩ (.slice A' st.length c') = w7 at *
  obtain ⟨x0, x1, x2, x3, x4, x5, x6, x7, x8⟩ := cells9 HW7.out.hx
  obtain ⟨z0, z1, z2, z3, z4, z5, z6, z7, z8⟩ := cells9 HW7.out.hr
  have ur := fun j => Joins.unfrozen_of_block HW7.out.hr j
  have ux := fun j => Joins.unfrozen_of_block HW7.out.hx j
  clear hm
  generalize m.kind = mk at *
  generalize letN z.kind = zk at *
  have p0 : w7.cell? ⟨b, off + 12, none⟩ = some (.int .i64 (u.kind : Int)) := (HK.out w7 HW7.out.hb 4 (by simp)).1
  have p1 : w7.cell? ⟨b, off + 13, none⟩ = some (.string ⟨u.text.toArray⟩) := (HK.out w7 HW7.out.hb 4 (by simp)).2.1
  have p2 : w7.cell? ⟨b, off + 14, none⟩ = some (.int .i64 (u.at_ : Int)) := (HK.out w7 HW7.out.hb 4 (by simp)).2.2
  have p3 : w7.cell? ⟨b, off + 12 + 1, none⟩ = some (.string ⟨u.text.toArray⟩) := p1
  have p4 : w7.cell? ⟨b, off + 12 + 2, none⟩ = some (.int .i64 (u.at_ : Int)) := p2
  go_wp2_with fail
  refine (RM.out _).mono ?_
  rintro e w8 ⟨rfl, hb8⟩
  have HW8 := Lib.hid (HW7.out.below hb8)
  have HV8 := Lib.hid (HV7.out.below hb8)
  clear x0 x1 x2 x3 x4 x5 x6 x7 x8 z0 z1 z2 z3 z4 z5 z6 z7 z8 ur ux
  clear HW7 HV7 hb8 RM p0 p1 p2 p3 p4
  obtain ⟨x0, x1, x2, x3, x4, x5, x6, x7, x8⟩ := cells9 HW8.out.hx
  obtain ⟨z0, z1, z2, z3, z4, z5, z6, z7, z8⟩ := cells9 HW8.out.hr
  have ur := fun j => Joins.unfrozen_of_block HW8.out.hr j
  have ux := fun j => Joins.unfrozen_of_block HW8.out.hx j
  have p0 : w8.cell? ⟨b, off + 12, none⟩ = some (.int .i64 (u.kind : Int)) := (HK.out w8 HW8.out.hb 4 (by simp)).1
  have p1 : w8.cell? ⟨b, off + 13, none⟩ = some (.string ⟨u.text.toArray⟩) := (HK.out w8 HW8.out.hb 4 (by simp)).2.1
  have p2 : w8.cell? ⟨b, off + 14, none⟩ = some (.int .i64 (u.at_ : Int)) := (HK.out w8 HW8.out.hb 4 (by simp)).2.2
  have p3 : w8.cell? ⟨b, off + 12 + 1, none⟩ = some (.string ⟨u.text.toArray⟩) := p1
  have p4 : w8.cell? ⟨b, off + 12 + 2, none⟩ = some (.int .i64 (u.at_ : Int)) := p2
  clear HK HS HV8 HNX HLE
  generalize u.kind = uk at *
  generalize letN v.kind = vk at *
  go_wp2_with fail
  refine body_fin (q := false) HW8.out.hr ?_ ?_ ?_
  · rfl
  · rfl
  · exact .no HO.out (stC_below HW8.out.hb)

set_option maxRecDepth 100000 in
set_option maxHeartbeats 1000000 in
theorem body_sto5 {t s m z u v g : Tok} {d : List Tok} {mo : Nat} {si : Bool} (A : Option Addr) (k : Nat) (tag : List UInt8) (hl : (t :: s :: m :: z :: u :: v :: g :: d).length ≤ 10000) (hc : (t :: s :: m :: z :: u :: v :: g :: d).length ≤ k) (htx : ∀ x ∈ (t :: s :: m :: z :: u :: v :: g :: d), x.kind ≤ 6 ∧ x.text.length ≤ 9000) (w : World) (hS : SlAt encT 3 w A (t :: s :: m :: z :: u :: v :: g :: d)) (h4 : t.kind = 4) (h : 6 < kindL t.text) (hs : s.kind = 1) (hm : m.kind = 4) (hp : (parseP m.text).2 = true) (hz : z.kind = 1) (h7 : kindL t.text ≠ 7) (hu : u.kind = 4) (hmo : modeL u.text = some (mo, si)) (hv : v.kind = 1) :
    Calls Tryz.prog 30 #[.string ⟨tag.toArray⟩, .slice A (t :: s :: m :: z :: u :: v :: g :: d).length k] w (BPost (bodyR tag (t :: s :: m :: z :: u :: v :: g :: d)) w) := by
  obtain ⟨O, hO⟩ : ∃ O, bodyR tag (t :: s :: m :: z :: u :: v :: g :: d) = O := ⟨_, rfl⟩
  obtain ⟨n, hn⟩ : ∃ n, (t :: s :: m :: z :: u :: v :: g :: d).length = n := ⟨_, rfl⟩
  rw [hO, hn]
  have HS := Lib.hid hS
  have HTX := Lib.hid htx
  have hn0 : 0 < n := by rw [← hn]; simp
  have g0 : ((n : Int) == 0) = false := by simp; omega
  have g0' : ¬ (n : Int) = 0 := by omega
  have hn3 : 3 ≤ n := by rw [← hn]; simp
  have d3 : decide ((n : Int) < 3) = false := by simp; omega
  have d3' : decide (n < 3) = false := by simp; omega
  have s0 := fun x lo hi mx W => sliceAtRT x lo hi mx W
  obtain ⟨A6, hA6⟩ : ∃ A6, offT A k 6 = A6 := ⟨_, rfl⟩
  have hn6 : n - 6 = (g :: d).length := by rw [← hn]; simp
  have S6 : Hid (∀ W, Below w.heap.size w W → SlAt encT 3 W A6 (g :: d)) := Lib.hid (fun W hW => by
    have h := slAt_drop (c := k) (lo := 6) (hS.below hW) hc (by simp)
    rw [hA6] at h
    exact h)
  have s6 : ∀ W, (Instr.slice 39 (.slice A n k) (some (.int .i64 6)) none none).run Tryz.prog W = .ok (.slice A6 (g :: d).length (k - 6)) W := fun W => by
    have h := sliceRT_l A n k 6 (by rw [← hn]; simp) W
    rw [hA6, hn6] at h
    exact h
  have LI := Lib.hid (fun W (hW : Below w.heap.size w W) => rlist_any false A6 (k - 6) (g :: d) (by simp only [List.length_cons] at hl ⊢; omega) (by simp only [List.length_cons] at hc ⊢; omega) (fun x' hx => ⟨(htx x' (by rcases List.mem_cons.1 hx with e | e <;> simp [e])).1, Nat.le_trans (htx x' (by rcases List.mem_cons.1 hx with e | e <;> simp [e])).2 (by omega)⟩) W (S6.out W hW))
  have WO := Lib.hid (fun W (hW : Below w.heap.size w W) => rwords_any false A6 (k - 6) (g :: d) (by simp only [List.length_cons] at hl ⊢; omega) (fun x' hx => ⟨(htx x' (by rcases List.mem_cons.1 hx with e | e <;> simp [e])).1, Nat.le_trans (htx x' (by rcases List.mem_cons.1 hx with e | e <;> simp [e])).2 (by omega)⟩) W (S6.out W hW))
  obtain ⟨b, off, rfl, hb0, _, _, _⟩ := tk_at HS.out (j := 0) (by simp)
  have HK : Hid (∀ W, Below w.heap.size w W → ∀ j (hj : j < (t :: s :: m :: z :: u :: v :: g :: d).length), W.cell? ⟨b, off + j * 3, none⟩ = some (.int .i64 ((t :: s :: m :: z :: u :: v :: g :: d)[j].kind : Int)) ∧ W.cell? ⟨b, off + j * 3 + 1, none⟩ = some (.string ⟨(t :: s :: m :: z :: u :: v :: g :: d)[j].text.toArray⟩) ∧ W.cell? ⟨b, off + j * 3 + 2, none⟩ = some (.int .i64 ((t :: s :: m :: z :: u :: v :: g :: d)[j].at_ : Int))) := Lib.hid (fun W hW j hj => by
    obtain ⟨b', off', he, _, h1, h2, h3⟩ := tk_at (HS.out.below hW) hj
    cases he
    exact ⟨h1, h2, h3⟩)
  have HO : Hid (O = ((lsR false (g :: d)).or (wsR false (g :: d))).map fun gg => { ({ cmd0 tag with kind := kindL t.text, set := (parseP m.text).1 } : Cmd) with mode := mo, silent := si, flags := gg }) := Lib.hid (by rw [← hO, bodyR_sto tag h4 h hs hm hp hz h7]; exact stoR_is _ hu hv hmo)
  have m4 : ((m.kind : Int) != 4) = false := by rw [hm]; rfl
  have d5 : decide ((n : Int) < 5) = false := by rw [← hn]; simp; omega
  have d5' : decide (n < 5) = false := by rw [← hn]; simp
  have f3 : (((letN z.kind).toNat : Int) != 115) = false := by rw [hz]; decide
  have hn5 : 5 ≤ n := by rw [← hn]; simp
  have e7 : (((kindL t.text : Nat) : Int) == 7) = false := by simp; omega
  have e7' : ¬ (((kindL t.text : Nat) : Int) = 7) := by omega
  have hlu := (htx u (by simp)).2
  have RM := Lib.hid (fun W => rmode_any u.text (by omega) W)
  have u4 : ((u.kind : Int) != 4) = false := by rw [hu]; rfl
  rw [hmo] at RM
  unfold modeZ at RM
  have l0 : decide (((mo : Nat) : Int) < 0) = false := by simp
  have d7 : decide ((n : Int) < 7) = false := by rw [← hn]; simp; omega
  have d7' : decide (n < 7) = false := by rw [← hn]; simp
  have f5 : (((letN v.kind).toNat : Int) != 115) = false := by rw [hv]; decide
  generalize lsR false (g :: d) = SL at *
  generalize wsR false (g :: d) = SW at *
  clear hmo hu hv hn6 hA6 S6
  clear h7 hz hlu
  have e6 : decide ((((kindL t.text : Nat) : Int) ≤ 6)) = false := by simp; omega
  have e6' : decide (kindL t.text ≤ 6) = false := by simp; omega
  have f2 : (((letN s.kind).toNat : Int) != 115) = false := by rw [hs]; decide
  have hmt := (htx m (by simp)).2
  have R2 := Lib.hid (fun W => refParse2_any m.text (by omega) W)
  have e0 : (((kindL t.text : Nat) : Int) == 0) = false := by simp; omega
  have e4 : decide ((((kindL t.text : Nat) : Int) ≤ 4)) = false := by simp; omega
  have e4' : decide (kindL t.text ≤ 4) = false := by simp; omega
  clear h
  have KK := Lib.hid (fun W (hW : Below w.heap.size w W) => kinds_any (some ⟨b, off, none⟩) k (t :: s :: m :: z :: u :: v :: g :: d) hl (fun x' hx' => (HTX.out x' hx').1) W (HS.out.below hW))
  obtain ⟨KS, hKS⟩ : ∃ KS : ByteArray, (⟨(kindsL (t :: s :: m :: z :: u :: v :: g :: d)).toArray⟩ : ByteArray) = KS := ⟨_, rfl⟩
  rw [hKS, hn] at KK
  have ks0 : KS.size = n := by rw [← hKS, ← hn]; show (kindsL (t :: s :: m :: z :: u :: v :: g :: d)).toArray.size = _; simp [kindsL]
  have ks1 : 1 < KS.size := by rw [ks0, ← hn]; simp
  have kb1 : KS[1]'ks1 = letN s.kind := by subst hKS; simp [ByteArray.getElem_eq_getElem_data, kindsL]
  have ks3 : 3 < KS.size := by rw [ks0, ← hn]; simp
  have kb3 : KS[3]'ks3 = letN z.kind := by subst hKS; simp [ByteArray.getElem_eq_getElem_data, kindsL]
  have ks5 : 5 < KS.size := by rw [ks0, ← hn]; simp
  have kb5 : KS[5]'ks5 = letN v.kind := by subst hKS; simp [ByteArray.getElem_eq_getElem_data, kindsL]
  have hle6 : 6 ≤ n := by rw [← hn]; simp
  clear hO hS htx hc hl hn hKS hs hmt
  have f1 : ((t.kind : Int) != 4) = false := by rw [h4]; rfl
  have hlt := (HTX.out t (by simp)).2
  have KD := Lib.hid (fun W => refKind_any ⟨t.text.toArray⟩ (by show t.text.toArray.size ≤ _; simp; omega) W)
  have KD : Hid (∀ W, Calls Tryz.prog 21 #[.string ⟨t.text.toArray⟩] W fun e w' => e = .returned (.int .i64 (kindL t.text : Nat)) ∧ Below W.heap.size W w') := KD
  have HW := Lib.hid (BW.start w tag)
  go_enter Tryz.func30, Tryz.ntmps30
  go_upto_region 2 with (fail)
  generalize ((w.alloc (.cells #[.string ⟨#[]⟩, .int .i64 0, .string ⟨#[]⟩, .slice none 0 0, .int .i64 0, .int .i64 0, .bool false, .int .u8 0, .slice none 0 0] 27)).alloc (.cells #[.string ⟨tag.toArray⟩, .int .i64 0, .string ⟨#[]⟩, .slice none 0 0, .int .i64 0, .int .i64 0, .bool false, .int .u8 0, .slice none 0 0] 27)) = W2 at *
  obtain ⟨x0, x1, x2, x3, x4, x5, x6, x7, x8⟩ := cells9 HW.out.hx
  obtain ⟨z0, z1, z2, z3, z4, z5, z6, z7, z8⟩ := cells9 HW.out.hr
  have ur := fun j => Joins.unfrozen_of_block HW.out.hr j
  have ux := fun j => Joins.unfrozen_of_block HW.out.hx j
  have k0 : W2.cell? ⟨b, off, none⟩ = some (.int .i64 (t.kind : Int)) := (HK.out W2 HW.out.hb 0 (by simp)).1
  have k1 : W2.cell? ⟨b, off + 1, none⟩ = some (.string ⟨t.text.toArray⟩) := (HK.out W2 HW.out.hb 0 (by simp)).2.1
  generalize kindL t.text = kd at *
  generalize t.kind = tk at *
  go_wp2_with fail
  refine (KD.out _).mono ?_
  rintro e w3 ⟨rfl, hb3⟩
  have HW3 := Lib.hid (HW.out.below hb3)
  clear x0 x1 x2 x3 x4 x5 x6 x7 x8 z0 z1 z2 z3 z4 z5 z6 z7 z8 ur ux
  clear KD HW hb3 k0 k1
  obtain ⟨x0, x1, x2, x3, x4, x5, x6, x7, x8⟩ := cells9 HW3.out.hx
  obtain ⟨z0, z1, z2, z3, z4, z5, z6, z7, z8⟩ := cells9 HW3.out.hr
  have ur := fun j => Joins.unfrozen_of_block HW3.out.hr j
  have ux := fun j => Joins.unfrozen_of_block HW3.out.hx j
  have HW4 := Lib.hid (HW3.out.set1 (.int .i64 (kd : Int)))
  go_upto_region 5 with (fail)
  clear x0 x1 x2 x3 x4 x5 x6 x7 x8 z0 z1 z2 z3 z4 z5 z6 z7 z8 ur ux
  clear HW3
  generalize w3.setCell ⟨w.heap.size + 1, 1, none⟩ (.int .i64 (kd : Int)) = w4 at *
  obtain ⟨x0, x1, x2, x3, x4, x5, x6, x7, x8⟩ := cells9 HW4.out.hx
  obtain ⟨z0, z1, z2, z3, z4, z5, z6, z7, z8⟩ := cells9 HW4.out.hr
  have ur := fun j => Joins.unfrozen_of_block HW4.out.hr j
  have ux := fun j => Joins.unfrozen_of_block HW4.out.hx j
  go_wp2_with fail
  refine (KK.out _ HW4.out.hb).mono ?_
  rintro e w5 ⟨rfl, hb5⟩
  have HW5 := Lib.hid (HW4.out.below hb5)
  clear x0 x1 x2 x3 x4 x5 x6 x7 x8 z0 z1 z2 z3 z4 z5 z6 z7 z8 ur ux
  clear HW4 hb5 KK HTX
  obtain ⟨x0, x1, x2, x3, x4, x5, x6, x7, x8⟩ := cells9 HW5.out.hx
  obtain ⟨z0, z1, z2, z3, z4, z5, z6, z7, z8⟩ := cells9 HW5.out.hr
  have ur := fun j => Joins.unfrozen_of_block HW5.out.hr j
  have ux := fun j => Joins.unfrozen_of_block HW5.out.hx j
  generalize letN s.kind = y at *
  have p0 : w5.cell? ⟨b, off + 6, none⟩ = some (.int .i64 (m.kind : Int)) := (HK.out w5 HW5.out.hb 2 (by simp)).1
  have p1 : w5.cell? ⟨b, off + 7, none⟩ = some (.string ⟨m.text.toArray⟩) := (HK.out w5 HW5.out.hb 2 (by simp)).2.1
  have p2 : w5.cell? ⟨b, off + 8, none⟩ = some (.int .i64 (m.at_ : Int)) := (HK.out w5 HW5.out.hb 2 (by simp)).2.2
  have p3 : w5.cell? ⟨b, off + 6 + 1, none⟩ = some (.string ⟨m.text.toArray⟩) := p1
  have p4 : w5.cell? ⟨b, off + 6 + 2, none⟩ = some (.int .i64 (m.at_ : Int)) := p2
  generalize parseP m.text = pp at *
  go_wp2_with fail
  refine (R2.out _).mono ?_
  rintro e w6 ⟨v, rfl, hO, hb6⟩
  have HW6 := Lib.hid (HW5.out.below hb6)
  have hnx : ∀ b off s n c, v = .slice (some ⟨b, off, s⟩) n c → w.heap.size + 2 ≤ b := fun b off s n c e => by
    have := (hO.lt b (by rw [e]; rfl)).1
    have := HW5.out.hs
    omega
  obtain ⟨A', c', rfl⟩ := own_any hO
  have hle : pp.1.length ≤ c' := by
    rcases hO.2 with ⟨h1, h0⟩ | ⟨g, cap, cur, h1, _, _, hn, _⟩
    · omega
    · injection h1 with _ _ h3
      omega
  have HV := Lib.hid (SlAt.of_own encR_len hO)
  have HNX : Hid (∀ b off s, A' = some ⟨b, off, s⟩ → w.heap.size + 2 ≤ b) := Lib.hid (fun b off s e => hnx b off s _ _ (by rw [e]))
  have HLE := Lib.hid hle
  clear x0 x1 x2 x3 x4 x5 x6 x7 x8 z0 z1 z2 z3 z4 z5 z6 z7 z8 ur ux
  clear HW5 hb6 R2 hO hnx hle p0 p1 p2 p3 p4
  obtain ⟨x0, x1, x2, x3, x4, x5, x6, x7, x8⟩ := cells9 HW6.out.hx
  obtain ⟨z0, z1, z2, z3, z4, z5, z6, z7, z8⟩ := cells9 HW6.out.hr
  have ur := fun j => Joins.unfrozen_of_block HW6.out.hr j
  have ux := fun j => Joins.unfrozen_of_block HW6.out.hx j
  have p0 : w6.cell? ⟨b, off + 6, none⟩ = some (.int .i64 (m.kind : Int)) := (HK.out w6 HW6.out.hb 2 (by simp)).1
  have p1 : w6.cell? ⟨b, off + 7, none⟩ = some (.string ⟨m.text.toArray⟩) := (HK.out w6 HW6.out.hb 2 (by simp)).2.1
  have p2 : w6.cell? ⟨b, off + 8, none⟩ = some (.int .i64 (m.at_ : Int)) := (HK.out w6 HW6.out.hb 2 (by simp)).2.2
  have p3 : w6.cell? ⟨b, off + 6 + 1, none⟩ = some (.string ⟨m.text.toArray⟩) := p1
  have p4 : w6.cell? ⟨b, off + 6 + 2, none⟩ = some (.int .i64 (m.at_ : Int)) := p2
  obtain ⟨st, ok⟩ := pp
  simp only at hp
  subst hp
  simp only at HV HLE HW6 HO x0 x1 x2 x3 x4 x5 x6 x7 x8
  have HW7 := Lib.hid (HW6.out.set3 (.slice A' st.length c'))
  have HV7 := Lib.hid (slAt_setx HV.out HNX.out 3 (.slice A' st.length c'))
  go_upto_region 23 with (fail)
  clear x0 x1 x2 x3 x4 x5 x6 x7 x8 z0 z1 z2 z3 z4 z5 z6 z7 z8 ur ux
  clear HW6 HV p0 p1 p2 p3 p4
  generalize w6.setCell ⟨w.heap.size + 1, 3, none⟩ (.slice A' st.length c') = w7 at *
  obtain ⟨x0, x1, x2, x3, x4, x5, x6, x7, x8⟩ := cells9 HW7.out.hx
  obtain ⟨z0, z1, z2, z3, z4, z5, z6, z7, z8⟩ := cells9 HW7.out.hr
  have ur := fun j => Joins.unfrozen_of_block HW7.out.hr j
  have ux := fun j => Joins.unfrozen_of_block HW7.out.hx j
  clear hm
  generalize m.kind = mk at *
  generalize letN z.kind = zk at *
  have p0 : w7.cell? ⟨b, off + 12, none⟩ = some (.int .i64 (u.kind : Int)) := (HK.out w7 HW7.out.hb 4 (by simp)).1
  have p1 : w7.cell? ⟨b, off + 13, none⟩ = some (.string ⟨u.text.toArray⟩) := (HK.out w7 HW7.out.hb 4 (by simp)).2.1
  have p2 : w7.cell? ⟨b, off + 14, none⟩ = some (.int .i64 (u.at_ : Int)) := (HK.out w7 HW7.out.hb 4 (by simp)).2.2
  have p3 : w7.cell? ⟨b, off + 12 + 1, none⟩ = some (.string ⟨u.text.toArray⟩) := p1
  have p4 : w7.cell? ⟨b, off + 12 + 2, none⟩ = some (.int .i64 (u.at_ : Int)) := p2
  go_wp2_with fail
  refine (RM.out _).mono ?_
  rintro e w8 ⟨rfl, hb8⟩
  have HW8 := Lib.hid (HW7.out.below hb8)
  have HV8 := Lib.hid (HV7.out.below hb8)
  clear x0 x1 x2 x3 x4 x5 x6 x7 x8 z0 z1 z2 z3 z4 z5 z6 z7 z8 ur ux
  clear HW7 HV7 hb8 RM p0 p1 p2 p3 p4
  obtain ⟨x0, x1, x2, x3, x4, x5, x6, x7, x8⟩ := cells9 HW8.out.hx
  obtain ⟨z0, z1, z2, z3, z4, z5, z6, z7, z8⟩ := cells9 HW8.out.hr
  have ur := fun j => Joins.unfrozen_of_block HW8.out.hr j
  have ux := fun j => Joins.unfrozen_of_block HW8.out.hx j
  have p0 : w8.cell? ⟨b, off + 12, none⟩ = some (.int .i64 (u.kind : Int)) := (HK.out w8 HW8.out.hb 4 (by simp)).1
  have p1 : w8.cell? ⟨b, off + 13, none⟩ = some (.string ⟨u.text.toArray⟩) := (HK.out w8 HW8.out.hb 4 (by simp)).2.1
  have p2 : w8.cell? ⟨b, off + 14, none⟩ = some (.int .i64 (u.at_ : Int)) := (HK.out w8 HW8.out.hb 4 (by simp)).2.2
  have p3 : w8.cell? ⟨b, off + 12 + 1, none⟩ = some (.string ⟨u.text.toArray⟩) := p1
  have p4 : w8.cell? ⟨b, off + 12 + 2, none⟩ = some (.int .i64 (u.at_ : Int)) := p2
  clear HK HS
  generalize u.kind = uk at *
  generalize letN v.kind = vk at *
  generalize (g :: d).length = n6 at *
  have HW9 := Lib.hid ((HW8.out.set5 (.int .i64 (mo : Int))).set6 (.bool si))
  have HV9 := Lib.hid (slAt_setx (slAt_setx HV8.out HNX.out 5 (.int .i64 (mo : Int))) HNX.out 6 (.bool si))
  go_upto_region 34 with (fail)
  clear x0 x1 x2 x3 x4 x5 x6 x7 x8 z0 z1 z2 z3 z4 z5 z6 z7 z8 ur ux
  clear HW8 HV8 p0 p1 p2 p3 p4
  generalize (w8.setCell ⟨w.heap.size + 1, 5, none⟩ (.int .i64 (mo : Int))).setCell ⟨w.heap.size + 1, 6, none⟩ (.bool si) = w9 at *
  obtain ⟨x0, x1, x2, x3, x4, x5, x6, x7, x8⟩ := cells9 HW9.out.hx
  obtain ⟨z0, z1, z2, z3, z4, z5, z6, z7, z8⟩ := cells9 HW9.out.hr
  have ur := fun j => Joins.unfrozen_of_block HW9.out.hr j
  have ux := fun j => Joins.unfrozen_of_block HW9.out.hx j
  go_wp2_with fail
  refine (LI.out _ HW9.out.hb).mono ?_
  rintro e w10 ⟨i1, q1, rfl, hs1, hq1, hb10⟩
  have HW10 := Lib.hid (HW9.out.below hb10)
  have HV10 := Lib.hid (HV9.out.below hb10)
  clear x0 x1 x2 x3 x4 x5 x6 x7 x8 z0 z1 z2 z3 z4 z5 z6 z7 z8 ur ux
  clear HW9 HV9 hb10 LI
  obtain ⟨x0, x1, x2, x3, x4, x5, x6, x7, x8⟩ := cells9 HW10.out.hx
  obtain ⟨z0, z1, z2, z3, z4, z5, z6, z7, z8⟩ := cells9 HW10.out.hr
  have ur := fun j => Joins.unfrozen_of_block HW10.out.hr j
  have ux := fun j => Joins.unfrozen_of_block HW10.out.hx j
  cases q1 with
  | true =>
    have hw8 := u8_wrap hs1
    have HW12 := Lib.hid (HW10.out.set7 (.int .u8 (i1 : Int)))
    have HV12 := Lib.hid (slAt_setx HV10.out HNX.out 7 (.int .u8 (i1 : Int)))
    go_upto_region 38 with (fail)
    clear x0 x1 x2 x3 x4 x5 x6 x7 x8 z0 z1 z2 z3 z4 z5 z6 z7 z8 ur ux
    clear HW10 HV10
    generalize w10.setCell ⟨w.heap.size + 1, 7, none⟩ (.int .u8 (i1 : Int)) = w12 at *
    obtain ⟨x0, x1, x2, x3, x4, x5, x6, x7, x8⟩ := cells9 HW12.out.hx
    obtain ⟨z0, z1, z2, z3, z4, z5, z6, z7, z8⟩ := cells9 HW12.out.hr
    have ur := fun j => Joins.unfrozen_of_block HW12.out.hr j
    have ux := fun j => Joins.unfrozen_of_block HW12.out.hx j
    have HO : Hid (O = some { cmd0 tag with kind := kd, set := st, mode := mo, silent := si, flags := i1 }) := Lib.hid (by rw [HO.out, hq1.out]; rfl)
    go_wp2_with fail
    refine body_fin (q := true) HW12.out.hr ?_ ?_ ?_
    · rfl
    · rfl
    · exact .sets (c := { cmd0 tag with kind := kd, set := st, mode := mo, silent := si, flags := i1 }) HO.out rfl HV12.out HLE.out (stC_grown _ _ _ _ _ _ _ _ _ _ _) HNX.out (stC_below HW12.out.hb)
  | false =>
    have HO1 : Hid (O = SW.map fun gg => { ({ cmd0 tag with kind := kd, set := st } : Cmd) with mode := mo, silent := si, flags := gg }) := Lib.hid (by rw [HO.out, hq1.out]; rfl)
    go_wp2_with fail
    refine (WO.out _ HW10.out.hb).mono ?_
    rintro e w11 ⟨i2, q2, rfl, hs2, hq2, hb11⟩
    have HW11 := Lib.hid (HW10.out.below hb11)
    have HV11 := Lib.hid (HV10.out.below hb11)
    clear x0 x1 x2 x3 x4 x5 x6 x7 x8 z0 z1 z2 z3 z4 z5 z6 z7 z8 ur ux
    clear HW10 HV10 hb11 WO
    obtain ⟨x0, x1, x2, x3, x4, x5, x6, x7, x8⟩ := cells9 HW11.out.hx
    obtain ⟨z0, z1, z2, z3, z4, z5, z6, z7, z8⟩ := cells9 HW11.out.hr
    have ur := fun j => Joins.unfrozen_of_block HW11.out.hr j
    have ux := fun j => Joins.unfrozen_of_block HW11.out.hx j
    have hw8 := u8_wrap hs2
    have HW12 := Lib.hid (HW11.out.set7 (.int .u8 (i2 : Int)))
    have HV12 := Lib.hid (slAt_setx HV11.out HNX.out 7 (.int .u8 (i2 : Int)))
    go_upto_region 38 with (fail)
    clear x0 x1 x2 x3 x4 x5 x6 x7 x8 z0 z1 z2 z3 z4 z5 z6 z7 z8 ur ux
    clear HW11 HV11
    generalize w11.setCell ⟨w.heap.size + 1, 7, none⟩ (.int .u8 (i2 : Int)) = w12 at *
    obtain ⟨x0, x1, x2, x3, x4, x5, x6, x7, x8⟩ := cells9 HW12.out.hx
    obtain ⟨z0, z1, z2, z3, z4, z5, z6, z7, z8⟩ := cells9 HW12.out.hr
    have ur := fun j => Joins.unfrozen_of_block HW12.out.hr j
    have ux := fun j => Joins.unfrozen_of_block HW12.out.hx j
    cases q2 with
    | true =>
      have HO : Hid (O = some { cmd0 tag with kind := kd, set := st, mode := mo, silent := si, flags := i2 }) := Lib.hid (by rw [HO1.out, hq2.out]; rfl)
      go_wp2_with fail
      refine body_fin (q := true) HW12.out.hr ?_ ?_ ?_
      · rfl
      · rfl
      · exact .sets (c := { cmd0 tag with kind := kd, set := st, mode := mo, silent := si, flags := i2 }) HO.out rfl HV12.out HLE.out (stC_grown _ _ _ _ _ _ _ _ _ _ _) HNX.out (stC_below HW12.out.hb)
    | false =>
      have HO : Hid (O = none) := Lib.hid (by rw [HO1.out, hq2.out]; rfl)
      go_wp2_with fail
      refine body_fin (q := false) HW12.out.hr ?_ ?_ ?_
      · rfl
      · rfl
      · exact .no HO.out (stC_below HW12.out.hb)

end Go.Proofs.YthfopimgdikpgaaGreatDoor
