import Derived.Test.YtpgfnlhfciacoaaGreatDoorPHi
set_option maxRecDepth 100000
set_option maxHeartbeats 1000000
open Go.Lib renaming hid → Hi
namespace Go.Proofs.YtpgfnlhfciacoaaGreatDoor
open Go.RowKit
theorem bodyR_set3 (tag : List UInt8) {t s m : Tok} {q : List Tok} (h4 : t.kind = 4) (h : 6 < YC t.text) (hs : s.kind = 1) (hm : m.kind = 4) (hp : (YP m.text).2 = true) (hq : q.length < 2) : YM tag (t :: s :: m :: q) = none := by
 rw [bodyR_set tag h4 h hs, if_neg (by simp [hm, hp])]
 rcases q with _ | ⟨z, _ | ⟨y, d⟩⟩
 · rfl
 · simp
 · simp at hq; omega
theorem bodyR_set4 (tag : List UInt8) {t s m z y : Tok} {d : List Tok} (h4 : t.kind = 4) (h : 6 < YC t.text) (hs : s.kind = 1) (hm : m.kind = 4) (hp : (YP m.text).2 = true) (hz : z.kind ≠ 1) : YM tag (t :: s :: m :: z :: y :: d) = none := by
 rw [bodyR_set tag h4 h hs, if_neg (by simp [hm, hp])]
 exact if_neg (fun e => hz e.1)
theorem body_set1 {t s m : Tok} {q : List Tok} (A : Option Addr) (k : Nat) (tag : List UInt8) (hl : (t :: s :: m :: q).length ≤ 10000) (htx : ∀ x ∈ (t :: s :: m :: q), x.kind ≤ 6 ∧ x.text.length ≤ 9000) (w : World) (hS : SlAt encT 3 w A (t :: s :: m :: q)) (h4 : t.kind = 4) (h : 6 < YC t.text) (hs : s.kind = 1) (hm : m.kind ≠ 4) :
 Calls Tryz.prog 64 #[.string ⟨tag.toArray⟩, .slice A (t :: s :: m :: q).length k] w (ZZ (YM tag (t :: s :: m :: q)) w) := by
 obtain ⟨O, hO⟩ : ∃ O, YM tag (t :: s :: m :: q) = O := ⟨_, rfl⟩
 obtain ⟨n, hn⟩ : ∃ n, (t :: s :: m :: q).length = n := ⟨_, rfl⟩
 rw [hO, hn]
 have HS := Hi hS
 have HTX := Hi htx
 have hn0 : 0 < n := by rw [← hn]; simp
 have g0 : ((n : Int) == 0) = false := by simp; omega
 have g0' : ¬ (n : Int) = 0 := by omega
 have hn3 : 3 ≤ n := by rw [← hn]; simp
 have d3 : decide ((n : Int) < 3) = false := by simp; omega
 have d3' : decide (n < 3) = false := by simp; omega
 obtain ⟨b, off, rfl, hb0, _, _, _⟩ := tk_at HS.out (j := 0) (by simp)
 have HK := Hi (tokAt HS.out)
 have HO : Hid (O = none) := Hi (by rw [← hO]; rw [bodyR_set tag h4 h hs, if_pos (.inl hm)])
 have m4 : ((m.kind : Int) != 4) = true := by simp; omega
 have e6 : decide ((((YC t.text : Nat) : Int) ≤ 6)) = false := by simp; omega
 have e6' : decide (YC t.text ≤ 6) = false := by simp; omega
 have f2 : (((letN s.kind).toNat : Int) != 115) = false := by rw [hs]; decide
 have hmt := (htx m (by simp)).2
 have R2 := Hi (fun W => ZW m.text (by omega) W)
 have e0 : (((YC t.text : Nat) : Int) == 0) = false := by simp; omega
 have e4 : decide ((((YC t.text : Nat) : Int) ≤ 4)) = false := by simp; omega
 have e4' : decide (YC t.text ≤ 4) = false := by simp; omega
 clear h
 have KK := Hi (fun W (hW : Below w.heap.size w W) => ZN (some ⟨b, off, none⟩) k (t :: s :: m :: q) hl (fun x' hx' => (HTX.out x' hx').1) W (HS.out.below hW))
 obtain ⟨KS, hKS⟩ : ∃ KS : ByteArray, (⟨(YK (t :: s :: m :: q)).toArray⟩ : ByteArray) = KS := ⟨_, rfl⟩
 rw [hKS, hn] at KK
 have ks0 : KS.size = n := by rw [← hKS, ← hn]; show (YK (t :: s :: m :: q)).toArray.size = _; simp [YK]
 have ks1 : 1 < KS.size := by rw [ks0, ← hn]; simp
 have kb1 : KS[1]'ks1 = letN s.kind := by subst hKS; simp [ByteArray.getElem_eq_getElem_data, YK]
 clear hO hS htx hl hn hKS hs hmt
 have f1 : ((t.kind : Int) != 4) = false := by rw [h4]; rfl
 have hlt := (HTX.out t (by simp)).2
 have KD := Hi (fun W => YZ ⟨t.text.toArray⟩ (by show t.text.toArray.size ≤ _; simp; omega) W)
 have KD : Hid (∀ W, Calls Tryz.prog 96 #[.string ⟨t.text.toArray⟩] W fun e w' => e = .returned (.int .i64 (YC t.text : Nat)) ∧ Below W.heap.size W w') := KD
 have HW := Hi (BW.start w tag)
 go_enter Tryz.func64, Tryz.ntmps64
 go_upto_region 2 with (fail)
 generalize ((w.alloc (.cells #[.string ⟨#[]⟩, .int .i64 0, .string ⟨#[]⟩, .slice none 0 0, .int .i64 0, .int .i64 0, .bool false, .int .u8 0, .slice none 0 0] 26)).alloc (.cells #[.string ⟨tag.toArray⟩, .int .i64 0, .string ⟨#[]⟩, .slice none 0 0, .int .i64 0, .int .i64 0, .bool false, .int .u8 0, .slice none 0 0] 26)) = W2 at *
 have xx := HW.out.all
 have k0 : W2.cell? ⟨b, off, none⟩ = some (.int .i64 (t.kind : Int)) := (HK.out W2 HW.out.hb 0 (by simp)).1
 have k1 : W2.cell? ⟨b, off + 1, none⟩ = some (.string ⟨t.text.toArray⟩) := (HK.out W2 HW.out.hb 0 (by simp)).2.1
 generalize YC t.text = kd at *
 generalize t.kind = tk at *
 go_wp2_with fail
 refine (KD.out _).mono ?_
 rintro e w3 ⟨rfl, hb3⟩
 have HW3 := Hi (HW.out.below hb3)
 clear xx KD HW hb3 k0 k1
 have xx := HW3.out.all
 have HW4 := Hi (HW3.out.set1 (.int .i64 (kd : Int)))
 go_upto_region 5 with (fail)
 clear xx HW3
 generalize w3.setCell ⟨w.heap.size + 1, 1, none⟩ (.int .i64 (kd : Int)) = w4 at *
 have xx := HW4.out.all
 go_wp2_with fail
 refine (KK.out _ HW4.out.hb).mono ?_
 rintro e w5 ⟨rfl, hb5⟩
 have HW5 := Hi (HW4.out.below hb5)
 clear xx HW4 hb5 KK HTX
 have xx := HW5.out.all
 generalize letN s.kind = y at *
 have pq := HK.out.at HW5.out.hb 2 6 7 8 (x := m) rfl rfl rfl rfl
 generalize YP m.text = pp at *
 go_wp2_with fail
 refine (R2.out _).mono ?_
 rintro e w6 ⟨v, rfl, hO, hb6⟩
 have HW6 := Hi (HW5.out.below hb6)
 have hnx : ∀ b off s n c, v = .slice (some ⟨b, off, s⟩) n c → w.heap.size + 2 ≤ b := fun b off s n c e => by
  have := (hO.lt b (by rw [e]; rfl)).1
  have := HW5.out.hs
  omega
 obtain ⟨A', c', rfl⟩ := YV hO
 have hle : pp.1.length ≤ c' := by
  rcases hO.2 with ⟨h1, h0⟩ | ⟨g, cap, cur, h1, _, _, hn, _⟩
  · omega
  · injection h1 with _ _ h3
    omega
 have HV := Hi (SlAt.of_own encR_len hO)
 have HNX : Hid (∀ b off s, A' = some ⟨b, off, s⟩ → w.heap.size + 2 ≤ b) := Hi (fun b off s e => hnx b off s _ _ (by rw [e]))
 have HLE := Hi hle
 clear xx HW5 hb6 R2 hO hnx hle pq
 have xx := HW6.out.all
 have pq := HK.out.at HW6.out.hb 2 6 7 8 (x := m) rfl rfl rfl rfl
 clear HK HS HV HNX HLE hm
 generalize m.kind = mk at *
 go_wp2_with fail
 refine ZH (q := false) HW6.out.hr ?_ ?_ ?_
 · rfl
 · rfl
 · exact .no HO.out (YN HW6.out.hb)
theorem body_set2 {t s m : Tok} {q : List Tok} (A : Option Addr) (k : Nat) (tag : List UInt8) (hl : (t :: s :: m :: q).length ≤ 10000) (htx : ∀ x ∈ (t :: s :: m :: q), x.kind ≤ 6 ∧ x.text.length ≤ 9000) (w : World) (hS : SlAt encT 3 w A (t :: s :: m :: q)) (h4 : t.kind = 4) (h : 6 < YC t.text) (hs : s.kind = 1) (hm : m.kind = 4) (hp : (YP m.text).2 = false) :
 Calls Tryz.prog 64 #[.string ⟨tag.toArray⟩, .slice A (t :: s :: m :: q).length k] w (ZZ (YM tag (t :: s :: m :: q)) w) := by
 obtain ⟨O, hO⟩ : ∃ O, YM tag (t :: s :: m :: q) = O := ⟨_, rfl⟩
 obtain ⟨n, hn⟩ : ∃ n, (t :: s :: m :: q).length = n := ⟨_, rfl⟩
 rw [hO, hn]
 have HS := Hi hS
 have HTX := Hi htx
 have hn0 : 0 < n := by rw [← hn]; simp
 have g0 : ((n : Int) == 0) = false := by simp; omega
 have g0' : ¬ (n : Int) = 0 := by omega
 have hn3 : 3 ≤ n := by rw [← hn]; simp
 have d3 : decide ((n : Int) < 3) = false := by simp; omega
 have d3' : decide (n < 3) = false := by simp; omega
 obtain ⟨b, off, rfl, hb0, _, _, _⟩ := tk_at HS.out (j := 0) (by simp)
 have HK := Hi (tokAt HS.out)
 have HO : Hid (O = none) := Hi (by rw [← hO]; rw [bodyR_set tag h4 h hs, if_pos (.inr hp)])
 have m4 : ((m.kind : Int) != 4) = false := by rw [hm]; rfl
 have e6 : decide ((((YC t.text : Nat) : Int) ≤ 6)) = false := by simp; omega
 have e6' : decide (YC t.text ≤ 6) = false := by simp; omega
 have f2 : (((letN s.kind).toNat : Int) != 115) = false := by rw [hs]; decide
 have hmt := (htx m (by simp)).2
 have R2 := Hi (fun W => ZW m.text (by omega) W)
 have e0 : (((YC t.text : Nat) : Int) == 0) = false := by simp; omega
 have e4 : decide ((((YC t.text : Nat) : Int) ≤ 4)) = false := by simp; omega
 have e4' : decide (YC t.text ≤ 4) = false := by simp; omega
 clear h
 have KK := Hi (fun W (hW : Below w.heap.size w W) => ZN (some ⟨b, off, none⟩) k (t :: s :: m :: q) hl (fun x' hx' => (HTX.out x' hx').1) W (HS.out.below hW))
 obtain ⟨KS, hKS⟩ : ∃ KS : ByteArray, (⟨(YK (t :: s :: m :: q)).toArray⟩ : ByteArray) = KS := ⟨_, rfl⟩
 rw [hKS, hn] at KK
 have ks0 : KS.size = n := by rw [← hKS, ← hn]; show (YK (t :: s :: m :: q)).toArray.size = _; simp [YK]
 have ks1 : 1 < KS.size := by rw [ks0, ← hn]; simp
 have kb1 : KS[1]'ks1 = letN s.kind := by subst hKS; simp [ByteArray.getElem_eq_getElem_data, YK]
 clear hO hS htx hl hn hKS hs hmt
 have f1 : ((t.kind : Int) != 4) = false := by rw [h4]; rfl
 have hlt := (HTX.out t (by simp)).2
 have KD := Hi (fun W => YZ ⟨t.text.toArray⟩ (by show t.text.toArray.size ≤ _; simp; omega) W)
 have KD : Hid (∀ W, Calls Tryz.prog 96 #[.string ⟨t.text.toArray⟩] W fun e w' => e = .returned (.int .i64 (YC t.text : Nat)) ∧ Below W.heap.size W w') := KD
 have HW := Hi (BW.start w tag)
 go_enter Tryz.func64, Tryz.ntmps64
 go_upto_region 2 with (fail)
 generalize ((w.alloc (.cells #[.string ⟨#[]⟩, .int .i64 0, .string ⟨#[]⟩, .slice none 0 0, .int .i64 0, .int .i64 0, .bool false, .int .u8 0, .slice none 0 0] 26)).alloc (.cells #[.string ⟨tag.toArray⟩, .int .i64 0, .string ⟨#[]⟩, .slice none 0 0, .int .i64 0, .int .i64 0, .bool false, .int .u8 0, .slice none 0 0] 26)) = W2 at *
 have xx := HW.out.all
 have k0 : W2.cell? ⟨b, off, none⟩ = some (.int .i64 (t.kind : Int)) := (HK.out W2 HW.out.hb 0 (by simp)).1
 have k1 : W2.cell? ⟨b, off + 1, none⟩ = some (.string ⟨t.text.toArray⟩) := (HK.out W2 HW.out.hb 0 (by simp)).2.1
 generalize YC t.text = kd at *
 generalize t.kind = tk at *
 go_wp2_with fail
 refine (KD.out _).mono ?_
 rintro e w3 ⟨rfl, hb3⟩
 have HW3 := Hi (HW.out.below hb3)
 clear xx KD HW hb3 k0 k1
 have xx := HW3.out.all
 have HW4 := Hi (HW3.out.set1 (.int .i64 (kd : Int)))
 go_upto_region 5 with (fail)
 clear xx HW3
 generalize w3.setCell ⟨w.heap.size + 1, 1, none⟩ (.int .i64 (kd : Int)) = w4 at *
 have xx := HW4.out.all
 go_wp2_with fail
 refine (KK.out _ HW4.out.hb).mono ?_
 rintro e w5 ⟨rfl, hb5⟩
 have HW5 := Hi (HW4.out.below hb5)
 clear xx HW4 hb5 KK HTX
 have xx := HW5.out.all
 generalize letN s.kind = y at *
 have pq := HK.out.at HW5.out.hb 2 6 7 8 (x := m) rfl rfl rfl rfl
 generalize YP m.text = pp at *
 go_wp2_with fail
 refine (R2.out _).mono ?_
 rintro e w6 ⟨v, rfl, hO, hb6⟩
 have HW6 := Hi (HW5.out.below hb6)
 have hnx : ∀ b off s n c, v = .slice (some ⟨b, off, s⟩) n c → w.heap.size + 2 ≤ b := fun b off s n c e => by
  have := (hO.lt b (by rw [e]; rfl)).1
  have := HW5.out.hs
  omega
 obtain ⟨A', c', rfl⟩ := YV hO
 have hle : pp.1.length ≤ c' := by
  rcases hO.2 with ⟨h1, h0⟩ | ⟨g, cap, cur, h1, _, _, hn, _⟩
  · omega
  · injection h1 with _ _ h3
    omega
 have HV := Hi (SlAt.of_own encR_len hO)
 have HNX : Hid (∀ b off s, A' = some ⟨b, off, s⟩ → w.heap.size + 2 ≤ b) := Hi (fun b off s e => hnx b off s _ _ (by rw [e]))
 have HLE := Hi hle
 clear xx HW5 hb6 R2 hO hnx hle pq
 have xx := HW6.out.all
 have pq := HK.out.at HW6.out.hb 2 6 7 8 (x := m) rfl rfl rfl rfl
 clear HK HS HV HNX HLE hm
 generalize m.kind = mk at *
 obtain ⟨st, ok⟩ := pp
 simp only at hp
 subst hp
 go_wp2_with fail
 refine ZH (q := false) HW6.out.hr ?_ ?_ ?_
 · rfl
 · rfl
 · exact .no HO.out (YN HW6.out.hb)
theorem body_set3 {t s m : Tok} {q : List Tok} (A : Option Addr) (k : Nat) (tag : List UInt8) (hl : (t :: s :: m :: q).length ≤ 10000) (htx : ∀ x ∈ (t :: s :: m :: q), x.kind ≤ 6 ∧ x.text.length ≤ 9000) (w : World) (hS : SlAt encT 3 w A (t :: s :: m :: q)) (h4 : t.kind = 4) (h : 6 < YC t.text) (hs : s.kind = 1) (hm : m.kind = 4) (hp : (YP m.text).2 = true) (hq : q.length < 2) :
 Calls Tryz.prog 64 #[.string ⟨tag.toArray⟩, .slice A (t :: s :: m :: q).length k] w (ZZ (YM tag (t :: s :: m :: q)) w) := by
 obtain ⟨O, hO⟩ : ∃ O, YM tag (t :: s :: m :: q) = O := ⟨_, rfl⟩
 obtain ⟨n, hn⟩ : ∃ n, (t :: s :: m :: q).length = n := ⟨_, rfl⟩
 rw [hO, hn]
 have HS := Hi hS
 have HTX := Hi htx
 have hn0 : 0 < n := by rw [← hn]; simp
 have g0 : ((n : Int) == 0) = false := by simp; omega
 have g0' : ¬ (n : Int) = 0 := by omega
 have hn3 : 3 ≤ n := by rw [← hn]; simp
 have d3 : decide ((n : Int) < 3) = false := by simp; omega
 have d3' : decide (n < 3) = false := by simp; omega
 obtain ⟨b, off, rfl, hb0, _, _, _⟩ := tk_at HS.out (j := 0) (by simp)
 have HK := Hi (tokAt HS.out)
 have HO : Hid (O = none) := Hi (by rw [← hO]; exact bodyR_set3 tag h4 h hs hm hp hq)
 have m4 : ((m.kind : Int) != 4) = false := by rw [hm]; rfl
 have d5 : decide ((n : Int) < 5) = true := by rw [← hn]; simp at hq ⊢; omega
 have d5' : decide (n < 5) = true := by rw [← hn]; simp at hq ⊢; omega
 clear hq
 have e6 : decide ((((YC t.text : Nat) : Int) ≤ 6)) = false := by simp; omega
 have e6' : decide (YC t.text ≤ 6) = false := by simp; omega
 have f2 : (((letN s.kind).toNat : Int) != 115) = false := by rw [hs]; decide
 have hmt := (htx m (by simp)).2
 have R2 := Hi (fun W => ZW m.text (by omega) W)
 have e0 : (((YC t.text : Nat) : Int) == 0) = false := by simp; omega
 have e4 : decide ((((YC t.text : Nat) : Int) ≤ 4)) = false := by simp; omega
 have e4' : decide (YC t.text ≤ 4) = false := by simp; omega
 clear h
 have KK := Hi (fun W (hW : Below w.heap.size w W) => ZN (some ⟨b, off, none⟩) k (t :: s :: m :: q) hl (fun x' hx' => (HTX.out x' hx').1) W (HS.out.below hW))
 obtain ⟨KS, hKS⟩ : ∃ KS : ByteArray, (⟨(YK (t :: s :: m :: q)).toArray⟩ : ByteArray) = KS := ⟨_, rfl⟩
 rw [hKS, hn] at KK
 have ks0 : KS.size = n := by rw [← hKS, ← hn]; show (YK (t :: s :: m :: q)).toArray.size = _; simp [YK]
 have ks1 : 1 < KS.size := by rw [ks0, ← hn]; simp
 have kb1 : KS[1]'ks1 = letN s.kind := by subst hKS; simp [ByteArray.getElem_eq_getElem_data, YK]
 clear hO hS htx hl hn hKS hs hmt
 have f1 : ((t.kind : Int) != 4) = false := by rw [h4]; rfl
 have hlt := (HTX.out t (by simp)).2
 have KD := Hi (fun W => YZ ⟨t.text.toArray⟩ (by show t.text.toArray.size ≤ _; simp; omega) W)
 have KD : Hid (∀ W, Calls Tryz.prog 96 #[.string ⟨t.text.toArray⟩] W fun e w' => e = .returned (.int .i64 (YC t.text : Nat)) ∧ Below W.heap.size W w') := KD
 have HW := Hi (BW.start w tag)
 go_enter Tryz.func64, Tryz.ntmps64
 go_upto_region 2 with (fail)
 generalize ((w.alloc (.cells #[.string ⟨#[]⟩, .int .i64 0, .string ⟨#[]⟩, .slice none 0 0, .int .i64 0, .int .i64 0, .bool false, .int .u8 0, .slice none 0 0] 26)).alloc (.cells #[.string ⟨tag.toArray⟩, .int .i64 0, .string ⟨#[]⟩, .slice none 0 0, .int .i64 0, .int .i64 0, .bool false, .int .u8 0, .slice none 0 0] 26)) = W2 at *
 have xx := HW.out.all
 have k0 : W2.cell? ⟨b, off, none⟩ = some (.int .i64 (t.kind : Int)) := (HK.out W2 HW.out.hb 0 (by simp)).1
 have k1 : W2.cell? ⟨b, off + 1, none⟩ = some (.string ⟨t.text.toArray⟩) := (HK.out W2 HW.out.hb 0 (by simp)).2.1
 generalize YC t.text = kd at *
 generalize t.kind = tk at *
 go_wp2_with fail
 refine (KD.out _).mono ?_
 rintro e w3 ⟨rfl, hb3⟩
 have HW3 := Hi (HW.out.below hb3)
 clear xx KD HW hb3 k0 k1
 have xx := HW3.out.all
 have HW4 := Hi (HW3.out.set1 (.int .i64 (kd : Int)))
 go_upto_region 5 with (fail)
 clear xx HW3
 generalize w3.setCell ⟨w.heap.size + 1, 1, none⟩ (.int .i64 (kd : Int)) = w4 at *
 have xx := HW4.out.all
 go_wp2_with fail
 refine (KK.out _ HW4.out.hb).mono ?_
 rintro e w5 ⟨rfl, hb5⟩
 have HW5 := Hi (HW4.out.below hb5)
 clear xx HW4 hb5 KK HTX
 have xx := HW5.out.all
 generalize letN s.kind = y at *
 have pq := HK.out.at HW5.out.hb 2 6 7 8 (x := m) rfl rfl rfl rfl
 generalize YP m.text = pp at *
 go_wp2_with fail
 refine (R2.out _).mono ?_
 rintro e w6 ⟨v, rfl, hO, hb6⟩
 have HW6 := Hi (HW5.out.below hb6)
 have hnx : ∀ b off s n c, v = .slice (some ⟨b, off, s⟩) n c → w.heap.size + 2 ≤ b := fun b off s n c e => by
  have := (hO.lt b (by rw [e]; rfl)).1
  have := HW5.out.hs
  omega
 obtain ⟨A', c', rfl⟩ := YV hO
 have hle : pp.1.length ≤ c' := by
  rcases hO.2 with ⟨h1, h0⟩ | ⟨g, cap, cur, h1, _, _, hn, _⟩
  · omega
  · injection h1 with _ _ h3
    omega
 have HV := Hi (SlAt.of_own encR_len hO)
 have HNX : Hid (∀ b off s, A' = some ⟨b, off, s⟩ → w.heap.size + 2 ≤ b) := Hi (fun b off s e => hnx b off s _ _ (by rw [e]))
 have HLE := Hi hle
 clear xx HW5 hb6 R2 hO hnx hle pq
 have xx := HW6.out.all
 have pq := HK.out.at HW6.out.hb 2 6 7 8 (x := m) rfl rfl rfl rfl
 clear HK HS HV HNX HLE hm
 generalize m.kind = mk at *
 obtain ⟨st, ok⟩ := pp
 simp only at hp
 subst hp
 go_wp2_with fail
 refine ZH (q := false) HW6.out.hr ?_ ?_ ?_
 · rfl
 · rfl
 · exact .no HO.out (YN HW6.out.hb)
theorem body_set4 {t s m z y : Tok} {d : List Tok} (A : Option Addr) (k : Nat) (tag : List UInt8) (hl : (t :: s :: m :: z :: y :: d).length ≤ 10000) (htx : ∀ x ∈ (t :: s :: m :: z :: y :: d), x.kind ≤ 6 ∧ x.text.length ≤ 9000) (w : World) (hS : SlAt encT 3 w A (t :: s :: m :: z :: y :: d)) (h4 : t.kind = 4) (h : 6 < YC t.text) (hs : s.kind = 1) (hm : m.kind = 4) (hp : (YP m.text).2 = true) (hz : z.kind ≠ 1) :
 Calls Tryz.prog 64 #[.string ⟨tag.toArray⟩, .slice A (t :: s :: m :: z :: y :: d).length k] w (ZZ (YM tag (t :: s :: m :: z :: y :: d)) w) := by
 obtain ⟨O, hO⟩ : ∃ O, YM tag (t :: s :: m :: z :: y :: d) = O := ⟨_, rfl⟩
 obtain ⟨n, hn⟩ : ∃ n, (t :: s :: m :: z :: y :: d).length = n := ⟨_, rfl⟩
 rw [hO, hn]
 have HS := Hi hS
 have HTX := Hi htx
 have hn0 : 0 < n := by rw [← hn]; simp
 have g0 : ((n : Int) == 0) = false := by simp; omega
 have g0' : ¬ (n : Int) = 0 := by omega
 have hn3 : 3 ≤ n := by rw [← hn]; simp
 have d3 : decide ((n : Int) < 3) = false := by simp; omega
 have d3' : decide (n < 3) = false := by simp; omega
 obtain ⟨b, off, rfl, hb0, _, _, _⟩ := tk_at HS.out (j := 0) (by simp)
 have HK := Hi (tokAt HS.out)
 have HO : Hid (O = none) := Hi (by rw [← hO]; exact bodyR_set4 tag h4 h hs hm hp hz)
 have m4 : ((m.kind : Int) != 4) = false := by rw [hm]; rfl
 have d5 : decide ((n : Int) < 5) = false := by rw [← hn]; simp; omega
 have d5' : decide (n < 5) = false := by rw [← hn]; simp
 have f3 : (((letN z.kind).toNat : Int) != 115) = true := by
  have hz6 := (htx z (by simp)).1
  have : ¬ letN z.kind = 115 := fun e => hz ((letN_s hz6).1 e)
  have : ¬ (letN z.kind).toNat = 115 := fun e => this (UInt8.toNat_inj.1 e)
  simp; omega
 clear hz
 have e6 : decide ((((YC t.text : Nat) : Int) ≤ 6)) = false := by simp; omega
 have e6' : decide (YC t.text ≤ 6) = false := by simp; omega
 have f2 : (((letN s.kind).toNat : Int) != 115) = false := by rw [hs]; decide
 have hmt := (htx m (by simp)).2
 have R2 := Hi (fun W => ZW m.text (by omega) W)
 have e0 : (((YC t.text : Nat) : Int) == 0) = false := by simp; omega
 have e4 : decide ((((YC t.text : Nat) : Int) ≤ 4)) = false := by simp; omega
 have e4' : decide (YC t.text ≤ 4) = false := by simp; omega
 clear h
 have KK := Hi (fun W (hW : Below w.heap.size w W) => ZN (some ⟨b, off, none⟩) k (t :: s :: m :: z :: y :: d) hl (fun x' hx' => (HTX.out x' hx').1) W (HS.out.below hW))
 obtain ⟨KS, hKS⟩ : ∃ KS : ByteArray, (⟨(YK (t :: s :: m :: z :: y :: d)).toArray⟩ : ByteArray) = KS := ⟨_, rfl⟩
 rw [hKS, hn] at KK
 have ks0 : KS.size = n := by rw [← hKS, ← hn]; show (YK (t :: s :: m :: z :: y :: d)).toArray.size = _; simp [YK]
 have ks1 : 1 < KS.size := by rw [ks0, ← hn]; simp
 have kb1 : KS[1]'ks1 = letN s.kind := by subst hKS; simp [ByteArray.getElem_eq_getElem_data, YK]
 have ks3 : 3 < KS.size := by rw [ks0, ← hn]; simp
 have kb3 : KS[3]'ks3 = letN z.kind := by subst hKS; simp [ByteArray.getElem_eq_getElem_data, YK]
 clear hO hS htx hl hn hKS hs hmt
 have f1 : ((t.kind : Int) != 4) = false := by rw [h4]; rfl
 have hlt := (HTX.out t (by simp)).2
 have KD := Hi (fun W => YZ ⟨t.text.toArray⟩ (by show t.text.toArray.size ≤ _; simp; omega) W)
 have KD : Hid (∀ W, Calls Tryz.prog 96 #[.string ⟨t.text.toArray⟩] W fun e w' => e = .returned (.int .i64 (YC t.text : Nat)) ∧ Below W.heap.size W w') := KD
 have HW := Hi (BW.start w tag)
 go_enter Tryz.func64, Tryz.ntmps64
 go_upto_region 2 with (fail)
 generalize ((w.alloc (.cells #[.string ⟨#[]⟩, .int .i64 0, .string ⟨#[]⟩, .slice none 0 0, .int .i64 0, .int .i64 0, .bool false, .int .u8 0, .slice none 0 0] 26)).alloc (.cells #[.string ⟨tag.toArray⟩, .int .i64 0, .string ⟨#[]⟩, .slice none 0 0, .int .i64 0, .int .i64 0, .bool false, .int .u8 0, .slice none 0 0] 26)) = W2 at *
 have xx := HW.out.all
 have k0 : W2.cell? ⟨b, off, none⟩ = some (.int .i64 (t.kind : Int)) := (HK.out W2 HW.out.hb 0 (by simp)).1
 have k1 : W2.cell? ⟨b, off + 1, none⟩ = some (.string ⟨t.text.toArray⟩) := (HK.out W2 HW.out.hb 0 (by simp)).2.1
 generalize YC t.text = kd at *
 generalize t.kind = tk at *
 go_wp2_with fail
 refine (KD.out _).mono ?_
 rintro e w3 ⟨rfl, hb3⟩
 have HW3 := Hi (HW.out.below hb3)
 clear xx KD HW hb3 k0 k1
 have xx := HW3.out.all
 have HW4 := Hi (HW3.out.set1 (.int .i64 (kd : Int)))
 go_upto_region 5 with (fail)
 clear xx HW3
 generalize w3.setCell ⟨w.heap.size + 1, 1, none⟩ (.int .i64 (kd : Int)) = w4 at *
 have xx := HW4.out.all
 go_wp2_with fail
 refine (KK.out _ HW4.out.hb).mono ?_
 rintro e w5 ⟨rfl, hb5⟩
 have HW5 := Hi (HW4.out.below hb5)
 clear xx HW4 hb5 KK HTX
 have xx := HW5.out.all
 generalize letN s.kind = y at *
 have pq := HK.out.at HW5.out.hb 2 6 7 8 (x := m) rfl rfl rfl rfl
 generalize YP m.text = pp at *
 go_wp2_with fail
 refine (R2.out _).mono ?_
 rintro e w6 ⟨v, rfl, hO, hb6⟩
 have HW6 := Hi (HW5.out.below hb6)
 have hnx : ∀ b off s n c, v = .slice (some ⟨b, off, s⟩) n c → w.heap.size + 2 ≤ b := fun b off s n c e => by
  have := (hO.lt b (by rw [e]; rfl)).1
  have := HW5.out.hs
  omega
 obtain ⟨A', c', rfl⟩ := YV hO
 have hle : pp.1.length ≤ c' := by
  rcases hO.2 with ⟨h1, h0⟩ | ⟨g, cap, cur, h1, _, _, hn, _⟩
  · omega
  · injection h1 with _ _ h3
    omega
 have HV := Hi (SlAt.of_own encR_len hO)
 have HNX : Hid (∀ b off s, A' = some ⟨b, off, s⟩ → w.heap.size + 2 ≤ b) := Hi (fun b off s e => hnx b off s _ _ (by rw [e]))
 have HLE := Hi hle
 clear xx HW5 hb6 R2 hO hnx hle pq
 have xx := HW6.out.all
 have pq := HK.out.at HW6.out.hb 2 6 7 8 (x := m) rfl rfl rfl rfl
 clear HK HS HV HNX HLE hm
 generalize m.kind = mk at *
 generalize letN z.kind = zk at *
 obtain ⟨st, ok⟩ := pp
 simp only at hp
 subst hp
 go_wp2_with fail
 refine ZH (q := false) HW6.out.hr ?_ ?_ ?_
 · rfl
 · rfl
 · exact .no HO.out (YN HW6.out.hb)
theorem fetR_is (c : Cmd) (l : List Tok) : fetR c l = (if l.length = 1 then wsR true l else lsR true l).map fun i => { c with items := i } := by
 unfold fetR wsR lsR
 split
 · cases ZC l <;> simp
 · cases lnames l <;> simp
theorem body_fet1 {t s m z u : Tok} {d : List Tok} (A : Option Addr) (k : Nat) (tag : List UInt8) (hl : (t :: s :: m :: z :: u :: d).length ≤ 10000) (hc : (t :: s :: m :: z :: u :: d).length ≤ k) (htx : ∀ x ∈ (t :: s :: m :: z :: u :: d), x.kind ≤ 6 ∧ x.text.length ≤ 9000) (w : World) (hS : SlAt encT 3 w A (t :: s :: m :: z :: u :: d)) (h4 : t.kind = 4) (h : 6 < YC t.text) (hs : s.kind = 1) (hm : m.kind = 4) (hp : (YP m.text).2 = true) (hz : z.kind = 1) (h7 : YC t.text = 7) (hd : d = []) :
 Calls Tryz.prog 64 #[.string ⟨tag.toArray⟩, .slice A (t :: s :: m :: z :: u :: d).length k] w (ZZ (YM tag (t :: s :: m :: z :: u :: d)) w) := by
 obtain ⟨O, hO⟩ : ∃ O, YM tag (t :: s :: m :: z :: u :: d) = O := ⟨_, rfl⟩
 obtain ⟨n, hn⟩ : ∃ n, (t :: s :: m :: z :: u :: d).length = n := ⟨_, rfl⟩
 rw [hO, hn]
 have HS := Hi hS
 have HTX := Hi htx
 have hn0 : 0 < n := by rw [← hn]; simp
 have g0 : ((n : Int) == 0) = false := by simp; omega
 have g0' : ¬ (n : Int) = 0 := by omega
 have hn3 : 3 ≤ n := by rw [← hn]; simp
 have d3 : decide ((n : Int) < 3) = false := by simp; omega
 have d3' : decide (n < 3) = false := by simp; omega
 have s0 := fun x lo hi mx W => sliceAtRT x lo hi mx W
 obtain ⟨A4, hA4⟩ : ∃ A4, offT A k 4 = A4 := ⟨_, rfl⟩
 have hn4 : n - 4 = (u :: d).length := by rw [← hn]; simp
 have S4 : Hid (∀ W, Below w.heap.size w W → SlAt encT 3 W A4 (u :: d)) := Hi (fun W hW => by
  have h := slAt_drop (c := k) (lo := 4) (hS.below hW) hc (by simp)
  rw [hA4] at h
  exact h)
 have s4 : ∀ W, (Instr.slice 94 (.slice A n k) (some (.int .i64 4)) none none).run Tryz.prog W = .ok (.slice A4 (u :: d).length (k - 4)) W := fun W => by
  have h := sliceRT_l A n k 4 (by rw [← hn]; simp) W
  rw [hA4, hn4] at h
  exact h
 have LI := Hi (fun W (hW : Below w.heap.size w W) => rlist_any true A4 (k - 4) (u :: d) (by simp only [List.length_cons] at hl ⊢; omega) (by simp only [List.length_cons] at hc ⊢; omega) (fun x hx => ⟨(htx x (by rcases List.mem_cons.1 hx with e | e <;> simp [e])).1, Nat.le_trans (htx x (by rcases List.mem_cons.1 hx with e | e <;> simp [e])).2 (by omega)⟩) W (S4.out W hW))
 have WO := Hi (fun W (hW : Below w.heap.size w W) => rwords_any true A4 (k - 4) (u :: d) (by simp only [List.length_cons] at hl ⊢; omega) (fun x hx => ⟨(htx x (by rcases List.mem_cons.1 hx with e | e <;> simp [e])).1, Nat.le_trans (htx x (by rcases List.mem_cons.1 hx with e | e <;> simp [e])).2 (by omega)⟩) W (S4.out W hW))
 obtain ⟨b, off, rfl, hb0, _, _, _⟩ := tk_at HS.out (j := 0) (by simp)
 have HK := Hi (tokAt HS.out)
 have HO : Hid (O = (wsR true (u :: d)).map fun i => { ({ cmd0 tag with kind := YC t.text, set := (YP m.text).1 } : Cmd) with items := i }) := Hi (by rw [← hO]; rw [bodyR_set tag h4 h hs, if_neg (by simp [hm, hp])]; refine (if_pos ⟨hz, by simp⟩).trans ?_; rw [if_pos h7, fetR_is, if_pos (by rw [hd]; rfl)])
 have m4 : ((m.kind : Int) != 4) = false := by rw [hm]; rfl
 have d5 : decide ((n : Int) < 5) = false := by rw [← hn]; simp; omega
 have d5' : decide (n < 5) = false := by rw [← hn]; simp
 have f3 : (((letN z.kind).toNat : Int) != 115) = false := by rw [hz]; decide
 have e7 : (((YC t.text : Nat) : Int) == 7) = true := by rw [h7]; rfl
 have gn : ((n : Int) == 5) = true := by rw [← hn, hd]; rfl
 generalize wsR true (u :: d) = SU at *
 clear h7 hz hn4 hA4 S4 hd
 have e6 : decide ((((YC t.text : Nat) : Int) ≤ 6)) = false := by simp; omega
 have e6' : decide (YC t.text ≤ 6) = false := by simp; omega
 have f2 : (((letN s.kind).toNat : Int) != 115) = false := by rw [hs]; decide
 have hmt := (htx m (by simp)).2
 have R2 := Hi (fun W => ZW m.text (by omega) W)
 have e0 : (((YC t.text : Nat) : Int) == 0) = false := by simp; omega
 have e4 : decide ((((YC t.text : Nat) : Int) ≤ 4)) = false := by simp; omega
 have e4' : decide (YC t.text ≤ 4) = false := by simp; omega
 clear h
 have KK := Hi (fun W (hW : Below w.heap.size w W) => ZN (some ⟨b, off, none⟩) k (t :: s :: m :: z :: u :: d) hl (fun x' hx' => (HTX.out x' hx').1) W (HS.out.below hW))
 obtain ⟨KS, hKS⟩ : ∃ KS : ByteArray, (⟨(YK (t :: s :: m :: z :: u :: d)).toArray⟩ : ByteArray) = KS := ⟨_, rfl⟩
 rw [hKS, hn] at KK
 have ks0 : KS.size = n := by rw [← hKS, ← hn]; show (YK (t :: s :: m :: z :: u :: d)).toArray.size = _; simp [YK]
 have ks1 : 1 < KS.size := by rw [ks0, ← hn]; simp
 have kb1 : KS[1]'ks1 = letN s.kind := by subst hKS; simp [ByteArray.getElem_eq_getElem_data, YK]
 have ks3 : 3 < KS.size := by rw [ks0, ← hn]; simp
 have kb3 : KS[3]'ks3 = letN z.kind := by subst hKS; simp [ByteArray.getElem_eq_getElem_data, YK]
 have hle4 : 4 ≤ n := by rw [← hn]; simp
 clear hO hS htx hc hl hn hKS hs hmt
 have f1 : ((t.kind : Int) != 4) = false := by rw [h4]; rfl
 have hlt := (HTX.out t (by simp)).2
 have KD := Hi (fun W => YZ ⟨t.text.toArray⟩ (by show t.text.toArray.size ≤ _; simp; omega) W)
 have KD : Hid (∀ W, Calls Tryz.prog 96 #[.string ⟨t.text.toArray⟩] W fun e w' => e = .returned (.int .i64 (YC t.text : Nat)) ∧ Below W.heap.size W w') := KD
 have HW := Hi (BW.start w tag)
 go_enter Tryz.func64, Tryz.ntmps64
 go_upto_region 2 with (fail)
 generalize ((w.alloc (.cells #[.string ⟨#[]⟩, .int .i64 0, .string ⟨#[]⟩, .slice none 0 0, .int .i64 0, .int .i64 0, .bool false, .int .u8 0, .slice none 0 0] 26)).alloc (.cells #[.string ⟨tag.toArray⟩, .int .i64 0, .string ⟨#[]⟩, .slice none 0 0, .int .i64 0, .int .i64 0, .bool false, .int .u8 0, .slice none 0 0] 26)) = W2 at *
 have xx := HW.out.all
 have k0 : W2.cell? ⟨b, off, none⟩ = some (.int .i64 (t.kind : Int)) := (HK.out W2 HW.out.hb 0 (by simp)).1
 have k1 : W2.cell? ⟨b, off + 1, none⟩ = some (.string ⟨t.text.toArray⟩) := (HK.out W2 HW.out.hb 0 (by simp)).2.1
 generalize YC t.text = kd at *
 generalize t.kind = tk at *
 go_wp2_with fail
 refine (KD.out _).mono ?_
 rintro e w3 ⟨rfl, hb3⟩
 have HW3 := Hi (HW.out.below hb3)
 clear xx KD HW hb3 k0 k1
 have xx := HW3.out.all
 have HW4 := Hi (HW3.out.set1 (.int .i64 (kd : Int)))
 go_upto_region 5 with (fail)
 clear xx HW3
 generalize w3.setCell ⟨w.heap.size + 1, 1, none⟩ (.int .i64 (kd : Int)) = w4 at *
 have xx := HW4.out.all
 go_wp2_with fail
 refine (KK.out _ HW4.out.hb).mono ?_
 rintro e w5 ⟨rfl, hb5⟩
 have HW5 := Hi (HW4.out.below hb5)
 clear xx HW4 hb5 KK HTX
 have xx := HW5.out.all
 generalize letN s.kind = y at *
 have pq := HK.out.at HW5.out.hb 2 6 7 8 (x := m) rfl rfl rfl rfl
 generalize YP m.text = pp at *
 go_wp2_with fail
 refine (R2.out _).mono ?_
 rintro e w6 ⟨v, rfl, hO, hb6⟩
 have HW6 := Hi (HW5.out.below hb6)
 have hnx : ∀ b off s n c, v = .slice (some ⟨b, off, s⟩) n c → w.heap.size + 2 ≤ b := fun b off s n c e => by
  have := (hO.lt b (by rw [e]; rfl)).1
  have := HW5.out.hs
  omega
 obtain ⟨A', c', rfl⟩ := YV hO
 have hle : pp.1.length ≤ c' := by
  rcases hO.2 with ⟨h1, h0⟩ | ⟨g, cap, cur, h1, _, _, hn, _⟩
  · omega
  · injection h1 with _ _ h3
    omega
 have HV := Hi (SlAt.of_own encR_len hO)
 have HNX : Hid (∀ b off s, A' = some ⟨b, off, s⟩ → w.heap.size + 2 ≤ b) := Hi (fun b off s e => hnx b off s _ _ (by rw [e]))
 have HLE := Hi hle
 clear xx HW5 hb6 R2 hO hnx hle pq
 have xx := HW6.out.all
 have pq := HK.out.at HW6.out.hb 2 6 7 8 (x := m) rfl rfl rfl rfl
 obtain ⟨st, ok⟩ := pp
 simp only at hp
 subst hp
 simp only at HV HLE HW6 HO xx
 have HW7 := Hi (HW6.out.set3 (.slice A' st.length c'))
 have HV7 := Hi (slAt_setx HV.out HNX.out 3 (.slice A' st.length c'))
 go_upto_region 23 with (fail)
 clear xx HW6 HV pq
 generalize w6.setCell ⟨w.heap.size + 1, 3, none⟩ (.slice A' st.length c') = w7 at *
 have xx := HW7.out.all
 clear HK HS hm
 generalize m.kind = mk at *
 generalize letN z.kind = zk at *
 generalize (u :: d).length = n4 at *
 go_wp2_with fail
 refine (LI.out _ HW7.out.hb).mono ?_
 rintro e w8 ⟨i1, q1, rfl, hs1, hq1, hb8⟩
 have HW8 := Hi (HW7.out.below hb8)
 have HV8 := Hi (HV7.out.below hb8)
 clear xx HW7 HV7 hb8 LI
 have xx := HW8.out.all
 go_wp2_with fail
 refine (WO.out _ HW8.out.hb).mono ?_
 rintro e w9 ⟨i2, q2, rfl, hs2, hq2, hb9⟩
 have HW9 := Hi (HW8.out.below hb9)
 have HV9 := Hi (HV8.out.below hb9)
 clear xx HW8 HV8 hb9 WO
 have xx := HW9.out.all
 have HW10 := Hi (HW9.out.set4 (.int .i64 (i2 : Int)))
 have HV10 := Hi (slAt_setx HV9.out HNX.out 4 (.int .i64 (i2 : Int)))
 go_upto_region 28 with (fail)
 clear xx HW9 HV9
 generalize w9.setCell ⟨w.heap.size + 1, 4, none⟩ (.int .i64 (i2 : Int)) = w10 at *
 have xx := HW10.out.all
 cases q2 with
 | false =>
   have HO : Hid (O = none) := Hi (by rw [HO.out, hq2.out]; rfl)
   go_wp2_with fail
   refine ZH (q := false) HW10.out.hr ?_ ?_ ?_
   · rfl
   · rfl
   · exact .no HO.out (YN HW10.out.hb)
 | true =>
   have HO : Hid (O = some { cmd0 tag with kind := kd, set := st, items := i2 }) := Hi (by rw [HO.out, hq2.out]; rfl)
   go_wp2_with fail
   refine ZH (q := true) HW10.out.hr ?_ ?_ ?_
   · rfl
   · rfl
   · exact .sets (c := { cmd0 tag with kind := kd, set := st, items := i2 }) HO.out rfl HV10.out HLE.out (stC_grown _ _ _ _ _ _ _ _ _ _ _) HNX.out (YN HW10.out.hb)
theorem body_fet2 {t s m z u : Tok} {d : List Tok} (A : Option Addr) (k : Nat) (tag : List UInt8) (hl : (t :: s :: m :: z :: u :: d).length ≤ 10000) (hc : (t :: s :: m :: z :: u :: d).length ≤ k) (htx : ∀ x ∈ (t :: s :: m :: z :: u :: d), x.kind ≤ 6 ∧ x.text.length ≤ 9000) (w : World) (hS : SlAt encT 3 w A (t :: s :: m :: z :: u :: d)) (h4 : t.kind = 4) (h : 6 < YC t.text) (hs : s.kind = 1) (hm : m.kind = 4) (hp : (YP m.text).2 = true) (hz : z.kind = 1) (h7 : YC t.text = 7) (hd : d ≠ []) :
 Calls Tryz.prog 64 #[.string ⟨tag.toArray⟩, .slice A (t :: s :: m :: z :: u :: d).length k] w (ZZ (YM tag (t :: s :: m :: z :: u :: d)) w) := by
 obtain ⟨O, hO⟩ : ∃ O, YM tag (t :: s :: m :: z :: u :: d) = O := ⟨_, rfl⟩
 obtain ⟨n, hn⟩ : ∃ n, (t :: s :: m :: z :: u :: d).length = n := ⟨_, rfl⟩
 rw [hO, hn]
 have HS := Hi hS
 have HTX := Hi htx
 have hn0 : 0 < n := by rw [← hn]; simp
 have g0 : ((n : Int) == 0) = false := by simp; omega
 have g0' : ¬ (n : Int) = 0 := by omega
 have hn3 : 3 ≤ n := by rw [← hn]; simp
 have d3 : decide ((n : Int) < 3) = false := by simp; omega
 have d3' : decide (n < 3) = false := by simp; omega
 have s0 := fun x lo hi mx W => sliceAtRT x lo hi mx W
 obtain ⟨A4, hA4⟩ : ∃ A4, offT A k 4 = A4 := ⟨_, rfl⟩
 have hn4 : n - 4 = (u :: d).length := by rw [← hn]; simp
 have S4 : Hid (∀ W, Below w.heap.size w W → SlAt encT 3 W A4 (u :: d)) := Hi (fun W hW => by
  have h := slAt_drop (c := k) (lo := 4) (hS.below hW) hc (by simp)
  rw [hA4] at h
  exact h)
 have s4 : ∀ W, (Instr.slice 94 (.slice A n k) (some (.int .i64 4)) none none).run Tryz.prog W = .ok (.slice A4 (u :: d).length (k - 4)) W := fun W => by
  have h := sliceRT_l A n k 4 (by rw [← hn]; simp) W
  rw [hA4, hn4] at h
  exact h
 have LI := Hi (fun W (hW : Below w.heap.size w W) => rlist_any true A4 (k - 4) (u :: d) (by simp only [List.length_cons] at hl ⊢; omega) (by simp only [List.length_cons] at hc ⊢; omega) (fun x hx => ⟨(htx x (by rcases List.mem_cons.1 hx with e | e <;> simp [e])).1, Nat.le_trans (htx x (by rcases List.mem_cons.1 hx with e | e <;> simp [e])).2 (by omega)⟩) W (S4.out W hW))
 have WO := Hi (fun W (hW : Below w.heap.size w W) => rwords_any true A4 (k - 4) (u :: d) (by simp only [List.length_cons] at hl ⊢; omega) (fun x hx => ⟨(htx x (by rcases List.mem_cons.1 hx with e | e <;> simp [e])).1, Nat.le_trans (htx x (by rcases List.mem_cons.1 hx with e | e <;> simp [e])).2 (by omega)⟩) W (S4.out W hW))
 obtain ⟨b, off, rfl, hb0, _, _, _⟩ := tk_at HS.out (j := 0) (by simp)
 have HK := Hi (tokAt HS.out)
 have HO : Hid (O = (lsR true (u :: d)).map fun i => { ({ cmd0 tag with kind := YC t.text, set := (YP m.text).1 } : Cmd) with items := i }) := Hi (by rw [← hO]; rw [bodyR_set tag h4 h hs, if_neg (by simp [hm, hp])]; refine (if_pos ⟨hz, by simp⟩).trans ?_; rw [if_pos h7, fetR_is, if_neg (by simpa using hd)])
 have m4 : ((m.kind : Int) != 4) = false := by rw [hm]; rfl
 have d5 : decide ((n : Int) < 5) = false := by rw [← hn]; simp; omega
 have d5' : decide (n < 5) = false := by rw [← hn]; simp
 have f3 : (((letN z.kind).toNat : Int) != 115) = false := by rw [hz]; decide
 have e7 : (((YC t.text : Nat) : Int) == 7) = true := by rw [h7]; rfl
 have gn : ((n : Int) == 5) = false := by
  have : d.length ≠ 0 := fun e => hd (List.length_eq_zero_iff.1 e)
  rw [← hn]
  simp
  omega
 generalize lsR true (u :: d) = SU at *
 clear h7 hz hn4 hA4 S4 hd
 have e6 : decide ((((YC t.text : Nat) : Int) ≤ 6)) = false := by simp; omega
 have e6' : decide (YC t.text ≤ 6) = false := by simp; omega
 have f2 : (((letN s.kind).toNat : Int) != 115) = false := by rw [hs]; decide
 have hmt := (htx m (by simp)).2
 have R2 := Hi (fun W => ZW m.text (by omega) W)
 have e0 : (((YC t.text : Nat) : Int) == 0) = false := by simp; omega
 have e4 : decide ((((YC t.text : Nat) : Int) ≤ 4)) = false := by simp; omega
 have e4' : decide (YC t.text ≤ 4) = false := by simp; omega
 clear h
 have KK := Hi (fun W (hW : Below w.heap.size w W) => ZN (some ⟨b, off, none⟩) k (t :: s :: m :: z :: u :: d) hl (fun x' hx' => (HTX.out x' hx').1) W (HS.out.below hW))
 obtain ⟨KS, hKS⟩ : ∃ KS : ByteArray, (⟨(YK (t :: s :: m :: z :: u :: d)).toArray⟩ : ByteArray) = KS := ⟨_, rfl⟩
 rw [hKS, hn] at KK
 have ks0 : KS.size = n := by rw [← hKS, ← hn]; show (YK (t :: s :: m :: z :: u :: d)).toArray.size = _; simp [YK]
 have ks1 : 1 < KS.size := by rw [ks0, ← hn]; simp
 have kb1 : KS[1]'ks1 = letN s.kind := by subst hKS; simp [ByteArray.getElem_eq_getElem_data, YK]
 have ks3 : 3 < KS.size := by rw [ks0, ← hn]; simp
 have kb3 : KS[3]'ks3 = letN z.kind := by subst hKS; simp [ByteArray.getElem_eq_getElem_data, YK]
 have hle4 : 4 ≤ n := by rw [← hn]; simp
 clear hO hS htx hc hl hn hKS hs hmt
 have f1 : ((t.kind : Int) != 4) = false := by rw [h4]; rfl
 have hlt := (HTX.out t (by simp)).2
 have KD := Hi (fun W => YZ ⟨t.text.toArray⟩ (by show t.text.toArray.size ≤ _; simp; omega) W)
 have KD : Hid (∀ W, Calls Tryz.prog 96 #[.string ⟨t.text.toArray⟩] W fun e w' => e = .returned (.int .i64 (YC t.text : Nat)) ∧ Below W.heap.size W w') := KD
 have HW := Hi (BW.start w tag)
 go_enter Tryz.func64, Tryz.ntmps64
 go_upto_region 2 with (fail)
 generalize ((w.alloc (.cells #[.string ⟨#[]⟩, .int .i64 0, .string ⟨#[]⟩, .slice none 0 0, .int .i64 0, .int .i64 0, .bool false, .int .u8 0, .slice none 0 0] 26)).alloc (.cells #[.string ⟨tag.toArray⟩, .int .i64 0, .string ⟨#[]⟩, .slice none 0 0, .int .i64 0, .int .i64 0, .bool false, .int .u8 0, .slice none 0 0] 26)) = W2 at *
 have xx := HW.out.all
 have k0 : W2.cell? ⟨b, off, none⟩ = some (.int .i64 (t.kind : Int)) := (HK.out W2 HW.out.hb 0 (by simp)).1
 have k1 : W2.cell? ⟨b, off + 1, none⟩ = some (.string ⟨t.text.toArray⟩) := (HK.out W2 HW.out.hb 0 (by simp)).2.1
 generalize YC t.text = kd at *
 generalize t.kind = tk at *
 go_wp2_with fail
 refine (KD.out _).mono ?_
 rintro e w3 ⟨rfl, hb3⟩
 have HW3 := Hi (HW.out.below hb3)
 clear xx KD HW hb3 k0 k1
 have xx := HW3.out.all
 have HW4 := Hi (HW3.out.set1 (.int .i64 (kd : Int)))
 go_upto_region 5 with (fail)
 clear xx HW3
 generalize w3.setCell ⟨w.heap.size + 1, 1, none⟩ (.int .i64 (kd : Int)) = w4 at *
 have xx := HW4.out.all
 go_wp2_with fail
 refine (KK.out _ HW4.out.hb).mono ?_
 rintro e w5 ⟨rfl, hb5⟩
 have HW5 := Hi (HW4.out.below hb5)
 clear xx HW4 hb5 KK HTX
 have xx := HW5.out.all
 generalize letN s.kind = y at *
 have pq := HK.out.at HW5.out.hb 2 6 7 8 (x := m) rfl rfl rfl rfl
 generalize YP m.text = pp at *
 go_wp2_with fail
 refine (R2.out _).mono ?_
 rintro e w6 ⟨v, rfl, hO, hb6⟩
 have HW6 := Hi (HW5.out.below hb6)
 have hnx : ∀ b off s n c, v = .slice (some ⟨b, off, s⟩) n c → w.heap.size + 2 ≤ b := fun b off s n c e => by
  have := (hO.lt b (by rw [e]; rfl)).1
  have := HW5.out.hs
  omega
 obtain ⟨A', c', rfl⟩ := YV hO
 have hle : pp.1.length ≤ c' := by
  rcases hO.2 with ⟨h1, h0⟩ | ⟨g, cap, cur, h1, _, _, hn, _⟩
  · omega
  · injection h1 with _ _ h3
    omega
 have HV := Hi (SlAt.of_own encR_len hO)
 have HNX : Hid (∀ b off s, A' = some ⟨b, off, s⟩ → w.heap.size + 2 ≤ b) := Hi (fun b off s e => hnx b off s _ _ (by rw [e]))
 have HLE := Hi hle
 clear xx HW5 hb6 R2 hO hnx hle pq
 have xx := HW6.out.all
 have pq := HK.out.at HW6.out.hb 2 6 7 8 (x := m) rfl rfl rfl rfl
 obtain ⟨st, ok⟩ := pp
 simp only at hp
 subst hp
 simp only at HV HLE HW6 HO xx
 have HW7 := Hi (HW6.out.set3 (.slice A' st.length c'))
 have HV7 := Hi (slAt_setx HV.out HNX.out 3 (.slice A' st.length c'))
 go_upto_region 23 with (fail)
 clear xx HW6 HV pq
 generalize w6.setCell ⟨w.heap.size + 1, 3, none⟩ (.slice A' st.length c') = w7 at *
 have xx := HW7.out.all
 clear HK HS hm
 generalize m.kind = mk at *
 generalize letN z.kind = zk at *
 generalize (u :: d).length = n4 at *
 go_wp2_with fail
 refine (LI.out _ HW7.out.hb).mono ?_
 rintro e w8 ⟨i1, q1, rfl, hs1, hq1, hb8⟩
 have HW8 := Hi (HW7.out.below hb8)
 have HV8 := Hi (HV7.out.below hb8)
 clear xx HW7 HV7 hb8 LI
 have xx := HW8.out.all
 have HW10 := Hi (HW8.out.set4 (.int .i64 (i1 : Int)))
 have HV10 := Hi (slAt_setx HV8.out HNX.out 4 (.int .i64 (i1 : Int)))
 go_upto_region 28 with (fail)
 clear xx HW8 HV8
 generalize w8.setCell ⟨w.heap.size + 1, 4, none⟩ (.int .i64 (i1 : Int)) = w10 at *
 have xx := HW10.out.all
 cases q1 with
 | false =>
   have HO : Hid (O = none) := Hi (by rw [HO.out, hq1.out]; rfl)
   go_wp2_with fail
   refine ZH (q := false) HW10.out.hr ?_ ?_ ?_
   · rfl
   · rfl
   · exact .no HO.out (YN HW10.out.hb)
 | true =>
   have HO : Hid (O = some { cmd0 tag with kind := kd, set := st, items := i1 }) := Hi (by rw [HO.out, hq1.out]; rfl)
   go_wp2_with fail
   refine ZH (q := true) HW10.out.hr ?_ ?_ ?_
   · rfl
   · rfl
   · exact .sets (c := { cmd0 tag with kind := kd, set := st, items := i1 }) HO.out rfl HV10.out HLE.out (stC_grown _ _ _ _ _ _ _ _ _ _ _) HNX.out (YN HW10.out.hb)
end Go.Proofs.YtpgfnlhfciacoaaGreatDoor
