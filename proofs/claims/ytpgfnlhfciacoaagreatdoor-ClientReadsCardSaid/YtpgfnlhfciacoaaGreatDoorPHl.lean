import Derived.Test.YtpgfnlhfciacoaaGreatDoorPHj
import Derived.Test.YtpgfnlhfciacoaaGreatDoorPHk
import Derived.Test.YtpgfnlhfciacoaaGreatDoorPRefTok
set_option maxRecDepth 100000
set_option maxHeartbeats 1000000
open Go.Lib renaming hid → Hi
namespace Go.Proofs.YtpgfnlhfciacoaaGreatDoor
open Go.RowKit
theorem wsF_is (l : List Tok) : (ZC l).bind ZE = wsR false l := by
 unfold wsR
 cases hw : ZC l with
 | none => rfl
 | some ns =>
   have hne := wnames_ne hw
   simp [ZE, hne]
theorem stoR_no4 (c : Cmd) {u : Tok} {d : List Tok} (h : u.kind ≠ 4) : stoR c (u :: d) = none := by
 rcases d with _ | ⟨s, q⟩ <;> simp [stoR, h]
theorem stoR_nomode (c : Cmd) {u : Tok} {d : List Tok} (h : modeL u.text = none) : stoR c (u :: d) = none := by
 rcases d with _ | ⟨s, q⟩ <;> simp [stoR, h]
theorem stoR_short (c : Cmd) {u : Tok} {d : List Tok} (h : d.length < 2) : stoR c (u :: d) = none := by
 rcases d with _ | ⟨s, _ | ⟨x, q⟩⟩
 · simp [stoR]
 · simp [stoR]
 · simp at h; omega
theorem stoR_nos (c : Cmd) {u s : Tok} {q : List Tok} (h : s.kind ≠ 1) : stoR c (u :: s :: q) = none := by simp [stoR, h]
theorem stoR_is (c : Cmd) {u s x : Tok} {q : List Tok} {mo : Nat} {si : Bool} (h4 : u.kind = 4) (h1 : s.kind = 1) (hm : modeL u.text = some (mo, si)) : stoR c (u :: s :: x :: q) = ((lsR false (x :: q)).or (wsR false (x :: q))).map fun g => { c with mode := mo, silent := si, flags := g } := by
 rw [← wsF_is]
 simp [stoR, h4, h1, hm, lsR]
theorem bodyR_sto (tag : List UInt8) {t s m z u : Tok} {d : List Tok} (h4 : t.kind = 4) (h : 6 < YC t.text) (hs : s.kind = 1) (hm : m.kind = 4) (hp : (YP m.text).2 = true) (hz : z.kind = 1) (h7 : YC t.text ≠ 7) : YM tag (t :: s :: m :: z :: u :: d) = stoR { cmd0 tag with kind := YC t.text, set := (YP m.text).1 } (u :: d) := by
 rw [bodyR_set tag h4 h hs, if_neg (by simp [hm, hp])]
 refine (if_pos ⟨hz, by simp⟩).trans ?_
 rw [if_neg h7]
theorem body_sto1 {t s m z u : Tok} {d : List Tok} (A : Option Addr) (k : Nat) (tag : List UInt8) (hl : (t :: s :: m :: z :: u :: d).length ≤ 10000) (htx : ∀ x ∈ (t :: s :: m :: z :: u :: d), x.kind ≤ 6 ∧ x.text.length ≤ 9000) (w : World) (hS : SlAt encT 3 w A (t :: s :: m :: z :: u :: d)) (h4 : t.kind = 4) (h : 6 < YC t.text) (hs : s.kind = 1) (hm : m.kind = 4) (hp : (YP m.text).2 = true) (hz : z.kind = 1) (h7 : YC t.text ≠ 7) (hu : u.kind ≠ 4) :
 Calls Tryz.prog 64 #[.string ⟨tag.toArray⟩, .slice A (t :: s :: m :: z :: u :: d).length k] w (ZZ (YM tag (t :: s :: m :: z :: u :: d)) w) := by
 obtain ⟨O, hO⟩ : ∃ O, YM tag (t :: s :: m :: z :: u :: d) = O := ⟨_, rfl⟩
 obtain ⟨n, hn⟩ : ∃ n, (t :: s :: m :: z :: u :: d).length = n := ⟨_, rfl⟩
 rw [hO, hn]
 have HS := Hi hS
 have HTX := Hi htx
 have hn0 : 0 < n := by rw [← hn]; simp
 have g0 : ((n : Int) == 0) = false := by simp; omega
 have g0' : ¬ (n : Int) = 0 := by omega
 have hn3 : 3 ≤ n := by rw [← hn]; simp
 have d3 : decide ((n : Int) < 3) = false := by simp; omega
 have d3' : decide (n < 3) = false := by simp; omega
 obtain ⟨b, off, rfl, hb0, _, _, _⟩ := tk_at HS.out (j := 0) (by simp)
 have HK := Hi (tokAt HS.out)
 have HO : Hid (O = none) := Hi (by rw [← hO, bodyR_sto tag h4 h hs hm hp hz h7]; exact stoR_no4 _ hu)
 have m4 : ((m.kind : Int) != 4) = false := by rw [hm]; rfl
 have d5 : decide ((n : Int) < 5) = false := by rw [← hn]; simp; omega
 have d5' : decide (n < 5) = false := by rw [← hn]; simp
 have f3 : (((letN z.kind).toNat : Int) != 115) = false := by rw [hz]; decide
 have hn5 : 5 ≤ n := by rw [← hn]; simp
 have e7 : (((YC t.text : Nat) : Int) == 7) = false := by simp; omega
 have e7' : ¬ (((YC t.text : Nat) : Int) = 7) := by omega
 have hlu := (htx u (by simp)).2
 have RM := Hi (fun W => rmode_any u.text (by omega) W)
 have u4 : ((u.kind : Int) != 4) = true := by simp; omega
 obtain ⟨mi, si, hmz⟩ : ∃ (mi : Int) (si : Bool), modeZ (modeL u.text) = .tuple #[.int .i64 mi, .bool si] := by
  unfold modeZ
  cases modeL u.text with
  | none => exact ⟨_, _, rfl⟩
  | some p => exact ⟨_, _, rfl⟩
 rw [hmz] at RM
 clear hmz hu
 clear h7 hz hlu
 have e6 : decide ((((YC t.text : Nat) : Int) ≤ 6)) = false := by simp; omega
 have e6' : decide (YC t.text ≤ 6) = false := by simp; omega
 have f2 : (((letN s.kind).toNat : Int) != 115) = false := by rw [hs]; decide
 have hmt := (htx m (by simp)).2
 have R2 := Hi (fun W => ZW m.text (by omega) W)
 have e0 : (((YC t.text : Nat) : Int) == 0) = false := by simp; omega
 have e4 : decide ((((YC t.text : Nat) : Int) ≤ 4)) = false := by simp; omega
 have e4' : decide (YC t.text ≤ 4) = false := by simp; omega
 clear h
 have KK := Hi (fun W (hW : Below w.heap.size w W) => ZN (some ⟨b, off, none⟩) k (t :: s :: m :: z :: u :: d) hl (fun x' hx' => (HTX.out x' hx').1) W (HS.out.below hW))
 obtain ⟨KS, hKS⟩ : ∃ KS : ByteArray, (⟨(YK (t :: s :: m :: z :: u :: d)).toArray⟩ : ByteArray) = KS := ⟨_, rfl⟩
 rw [hKS, hn] at KK
 have ks0 : KS.size = n := by rw [← hKS, ← hn]; show (YK (t :: s :: m :: z :: u :: d)).toArray.size = _; simp [YK]
 have ks1 : 1 < KS.size := by rw [ks0, ← hn]; simp
 have kb1 : KS[1]'ks1 = letN s.kind := by subst hKS; simp [ByteArray.getElem_eq_getElem_data, YK]
 have ks3 : 3 < KS.size := by rw [ks0, ← hn]; simp
 have kb3 : KS[3]'ks3 = letN z.kind := by subst hKS; simp [ByteArray.getElem_eq_getElem_data, YK]
 clear hO hS htx hl hn hKS hs hmt
 have f1 : ((t.kind : Int) != 4) = false := by rw [h4]; rfl
 have hlt := (HTX.out t (by simp)).2
 have KD := Hi (fun W => YZ ⟨t.text.toArray⟩ (by show t.text.toArray.size ≤ _; simp; omega) W)
 have KD : Hid (∀ W, Calls Tryz.prog 96 #[.string ⟨t.text.toArray⟩] W fun e w' => e = .returned (.int .i64 (YC t.text : Nat)) ∧ Below W.heap.size W w') := KD
 have HW := Hi (BW.start w tag)
 go_enter Tryz.func64, Tryz.ntmps64
 go_upto_region 2 with (fail)
 generalize ((w.alloc (.cells #[.string ⟨#[]⟩, .int .i64 0, .string ⟨#[]⟩, .slice none 0 0, .int .i64 0, .int .i64 0, .bool false, .int .u8 0, .slice none 0 0] 26)).alloc (.cells #[.string ⟨tag.toArray⟩, .int .i64 0, .string ⟨#[]⟩, .slice none 0 0, .int .i64 0, .int .i64 0, .bool false, .int .u8 0, .slice none 0 0] 26)) = W2 at *
 have xx := HW.out.all
 have k0 : W2.cell? ⟨b, off, none⟩ = some (.int .i64 (t.kind : Int)) := (HK.out W2 HW.out.hb 0 (by simp)).1
 have k1 : W2.cell? ⟨b, off + 1, none⟩ = some (.string ⟨t.text.toArray⟩) := (HK.out W2 HW.out.hb 0 (by simp)).2.1
 generalize YC t.text = kd at *
 generalize t.kind = tk at *
 go_wp2_with fail
 refine (KD.out _).mono ?_
 rintro e w3 ⟨rfl, hb3⟩
 have HW3 := Hi (HW.out.below hb3)
 clear xx KD HW hb3 k0 k1
 have xx := HW3.out.all
 have HW4 := Hi (HW3.out.set1 (.int .i64 (kd : Int)))
 go_upto_region 5 with (fail)
 clear xx HW3
 generalize w3.setCell ⟨w.heap.size + 1, 1, none⟩ (.int .i64 (kd : Int)) = w4 at *
 have xx := HW4.out.all
 go_wp2_with fail
 refine (KK.out _ HW4.out.hb).mono ?_
 rintro e w5 ⟨rfl, hb5⟩
 have HW5 := Hi (HW4.out.below hb5)
 clear xx HW4 hb5 KK HTX
 have xx := HW5.out.all
 generalize letN s.kind = y at *
 have pq := HK.out.at HW5.out.hb 2 6 7 8 (x := m) rfl rfl rfl rfl
 generalize YP m.text = pp at *
 go_wp2_with fail
 refine (R2.out _).mono ?_
 rintro e w6 ⟨v, rfl, hO, hb6⟩
 have HW6 := Hi (HW5.out.below hb6)
 have hnx : ∀ b off s n c, v = .slice (some ⟨b, off, s⟩) n c → w.heap.size + 2 ≤ b := fun b off s n c e => by
  have := (hO.lt b (by rw [e]; rfl)).1
  have := HW5.out.hs
  omega
 obtain ⟨A', c', rfl⟩ := YV hO
 have hle : pp.1.length ≤ c' := by
  rcases hO.2 with ⟨h1, h0⟩ | ⟨g, cap, cur, h1, _, _, hn, _⟩
  · omega
  · injection h1 with _ _ h3
    omega
 have HV := Hi (SlAt.of_own encR_len hO)
 have HNX : Hid (∀ b off s, A' = some ⟨b, off, s⟩ → w.heap.size + 2 ≤ b) := Hi (fun b off s e => hnx b off s _ _ (by rw [e]))
 have HLE := Hi hle
 clear xx HW5 hb6 R2 hO hnx hle pq
 have xx := HW6.out.all
 have pq := HK.out.at HW6.out.hb 2 6 7 8 (x := m) rfl rfl rfl rfl
 obtain ⟨st, ok⟩ := pp
 simp only at hp
 subst hp
 simp only at HV HLE HW6 HO xx
 have HW7 := Hi (HW6.out.set3 (.slice A' st.length c'))
 have HV7 := Hi (slAt_setx HV.out HNX.out 3 (.slice A' st.length c'))
 go_upto_region 23 with (fail)
 clear xx HW6 HV pq
 generalize w6.setCell ⟨w.heap.size + 1, 3, none⟩ (.slice A' st.length c') = w7 at *
 have xx := HW7.out.all
 clear hm
 generalize m.kind = mk at *
 generalize letN z.kind = zk at *
 have pq := HK.out.at HW7.out.hb 4 12 13 14 (x := u) rfl rfl rfl rfl
 go_wp2_with fail
 refine (RM.out _).mono ?_
 rintro e w8 ⟨rfl, hb8⟩
 have HW8 := Hi (HW7.out.below hb8)
 have HV8 := Hi (HV7.out.below hb8)
 clear xx HW7 HV7 hb8 RM pq
 have xx := HW8.out.all
 have pq := HK.out.at HW8.out.hb 4 12 13 14 (x := u) rfl rfl rfl rfl
 clear HK HS HV8 HNX HLE
 generalize u.kind = uk at *
 go_wp2_with fail
 refine ZH (q := false) HW8.out.hr ?_ ?_ ?_
 · rfl
 · rfl
 · exact .no HO.out (YN HW8.out.hb)
theorem body_sto2 {t s m z u : Tok} {d : List Tok} (A : Option Addr) (k : Nat) (tag : List UInt8) (hl : (t :: s :: m :: z :: u :: d).length ≤ 10000) (htx : ∀ x ∈ (t :: s :: m :: z :: u :: d), x.kind ≤ 6 ∧ x.text.length ≤ 9000) (w : World) (hS : SlAt encT 3 w A (t :: s :: m :: z :: u :: d)) (h4 : t.kind = 4) (h : 6 < YC t.text) (hs : s.kind = 1) (hm : m.kind = 4) (hp : (YP m.text).2 = true) (hz : z.kind = 1) (h7 : YC t.text ≠ 7) (hu : u.kind = 4) (hmo : modeL u.text = none) :
 Calls Tryz.prog 64 #[.string ⟨tag.toArray⟩, .slice A (t :: s :: m :: z :: u :: d).length k] w (ZZ (YM tag (t :: s :: m :: z :: u :: d)) w) := by
 obtain ⟨O, hO⟩ : ∃ O, YM tag (t :: s :: m :: z :: u :: d) = O := ⟨_, rfl⟩
 obtain ⟨n, hn⟩ : ∃ n, (t :: s :: m :: z :: u :: d).length = n := ⟨_, rfl⟩
 rw [hO, hn]
 have HS := Hi hS
 have HTX := Hi htx
 have hn0 : 0 < n := by rw [← hn]; simp
 have g0 : ((n : Int) == 0) = false := by simp; omega
 have g0' : ¬ (n : Int) = 0 := by omega
 have hn3 : 3 ≤ n := by rw [← hn]; simp
 have d3 : decide ((n : Int) < 3) = false := by simp; omega
 have d3' : decide (n < 3) = false := by simp; omega
 obtain ⟨b, off, rfl, hb0, _, _, _⟩ := tk_at HS.out (j := 0) (by simp)
 have HK := Hi (tokAt HS.out)
 have HO : Hid (O = none) := Hi (by rw [← hO, bodyR_sto tag h4 h hs hm hp hz h7]; exact stoR_nomode _ hmo)
 have m4 : ((m.kind : Int) != 4) = false := by rw [hm]; rfl
 have d5 : decide ((n : Int) < 5) = false := by rw [← hn]; simp; omega
 have d5' : decide (n < 5) = false := by rw [← hn]; simp
 have f3 : (((letN z.kind).toNat : Int) != 115) = false := by rw [hz]; decide
 have hn5 : 5 ≤ n := by rw [← hn]; simp
 have e7 : (((YC t.text : Nat) : Int) == 7) = false := by simp; omega
 have e7' : ¬ (((YC t.text : Nat) : Int) = 7) := by omega
 have hlu := (htx u (by simp)).2
 have RM := Hi (fun W => rmode_any u.text (by omega) W)
 have u4 : ((u.kind : Int) != 4) = false := by rw [hu]; rfl
 rw [hmo] at RM
 unfold modeZ at RM
 clear hmo hu
 clear h7 hz hlu
 have e6 : decide ((((YC t.text : Nat) : Int) ≤ 6)) = false := by simp; omega
 have e6' : decide (YC t.text ≤ 6) = false := by simp; omega
 have f2 : (((letN s.kind).toNat : Int) != 115) = false := by rw [hs]; decide
 have hmt := (htx m (by simp)).2
 have R2 := Hi (fun W => ZW m.text (by omega) W)
 have e0 : (((YC t.text : Nat) : Int) == 0) = false := by simp; omega
 have e4 : decide ((((YC t.text : Nat) : Int) ≤ 4)) = false := by simp; omega
 have e4' : decide (YC t.text ≤ 4) = false := by simp; omega
 clear h
 have KK := Hi (fun W (hW : Below w.heap.size w W) => ZN (some ⟨b, off, none⟩) k (t :: s :: m :: z :: u :: d) hl (fun x' hx' => (HTX.out x' hx').1) W (HS.out.below hW))
 obtain ⟨KS, hKS⟩ : ∃ KS : ByteArray, (⟨(YK (t :: s :: m :: z :: u :: d)).toArray⟩ : ByteArray) = KS := ⟨_, rfl⟩
 rw [hKS, hn] at KK
 have ks0 : KS.size = n := by rw [← hKS, ← hn]; show (YK (t :: s :: m :: z :: u :: d)).toArray.size = _; simp [YK]
 have ks1 : 1 < KS.size := by rw [ks0, ← hn]; simp
 have kb1 : KS[1]'ks1 = letN s.kind := by subst hKS; simp [ByteArray.getElem_eq_getElem_data, YK]
 have ks3 : 3 < KS.size := by rw [ks0, ← hn]; simp
 have kb3 : KS[3]'ks3 = letN z.kind := by subst hKS; simp [ByteArray.getElem_eq_getElem_data, YK]
 clear hO hS htx hl hn hKS hs hmt
 have f1 : ((t.kind : Int) != 4) = false := by rw [h4]; rfl
 have hlt := (HTX.out t (by simp)).2
 have KD := Hi (fun W => YZ ⟨t.text.toArray⟩ (by show t.text.toArray.size ≤ _; simp; omega) W)
 have KD : Hid (∀ W, Calls Tryz.prog 96 #[.string ⟨t.text.toArray⟩] W fun e w' => e = .returned (.int .i64 (YC t.text : Nat)) ∧ Below W.heap.size W w') := KD
 have HW := Hi (BW.start w tag)
 go_enter Tryz.func64, Tryz.ntmps64
 go_upto_region 2 with (fail)
 generalize ((w.alloc (.cells #[.string ⟨#[]⟩, .int .i64 0, .string ⟨#[]⟩, .slice none 0 0, .int .i64 0, .int .i64 0, .bool false, .int .u8 0, .slice none 0 0] 26)).alloc (.cells #[.string ⟨tag.toArray⟩, .int .i64 0, .string ⟨#[]⟩, .slice none 0 0, .int .i64 0, .int .i64 0, .bool false, .int .u8 0, .slice none 0 0] 26)) = W2 at *
 have xx := HW.out.all
 have k0 : W2.cell? ⟨b, off, none⟩ = some (.int .i64 (t.kind : Int)) := (HK.out W2 HW.out.hb 0 (by simp)).1
 have k1 : W2.cell? ⟨b, off + 1, none⟩ = some (.string ⟨t.text.toArray⟩) := (HK.out W2 HW.out.hb 0 (by simp)).2.1
 generalize YC t.text = kd at *
 generalize t.kind = tk at *
 go_wp2_with fail
 refine (KD.out _).mono ?_
 rintro e w3 ⟨rfl, hb3⟩
 have HW3 := Hi (HW.out.below hb3)
 clear xx KD HW hb3 k0 k1
 have xx := HW3.out.all
 have HW4 := Hi (HW3.out.set1 (.int .i64 (kd : Int)))
 go_upto_region 5 with (fail)
 clear xx HW3
 generalize w3.setCell ⟨w.heap.size + 1, 1, none⟩ (.int .i64 (kd : Int)) = w4 at *
 have xx := HW4.out.all
 go_wp2_with fail
 refine (KK.out _ HW4.out.hb).mono ?_
 rintro e w5 ⟨rfl, hb5⟩
 have HW5 := Hi (HW4.out.below hb5)
 clear xx HW4 hb5 KK HTX
 have xx := HW5.out.all
 generalize letN s.kind = y at *
 have pq := HK.out.at HW5.out.hb 2 6 7 8 (x := m) rfl rfl rfl rfl
 generalize YP m.text = pp at *
 go_wp2_with fail
 refine (R2.out _).mono ?_
 rintro e w6 ⟨v, rfl, hO, hb6⟩
 have HW6 := Hi (HW5.out.below hb6)
 have hnx : ∀ b off s n c, v = .slice (some ⟨b, off, s⟩) n c → w.heap.size + 2 ≤ b := fun b off s n c e => by
  have := (hO.lt b (by rw [e]; rfl)).1
  have := HW5.out.hs
  omega
 obtain ⟨A', c', rfl⟩ := YV hO
 have hle : pp.1.length ≤ c' := by
  rcases hO.2 with ⟨h1, h0⟩ | ⟨g, cap, cur, h1, _, _, hn, _⟩
  · omega
  · injection h1 with _ _ h3
    omega
 have HV := Hi (SlAt.of_own encR_len hO)
 have HNX : Hid (∀ b off s, A' = some ⟨b, off, s⟩ → w.heap.size + 2 ≤ b) := Hi (fun b off s e => hnx b off s _ _ (by rw [e]))
 have HLE := Hi hle
 clear xx HW5 hb6 R2 hO hnx hle pq
 have xx := HW6.out.all
 have pq := HK.out.at HW6.out.hb 2 6 7 8 (x := m) rfl rfl rfl rfl
 obtain ⟨st, ok⟩ := pp
 simp only at hp
 subst hp
 simp only at HV HLE HW6 HO xx
 have HW7 := Hi (HW6.out.set3 (.slice A' st.length c'))
 have HV7 := Hi (slAt_setx HV.out HNX.out 3 (.slice A' st.length c'))
 go_upto_region 23 with (fail)
 clear xx HW6 HV pq
 generalize w6.setCell ⟨w.heap.size + 1, 3, none⟩ (.slice A' st.length c') = w7 at *
 have xx := HW7.out.all
 clear hm
 generalize m.kind = mk at *
 generalize letN z.kind = zk at *
 have pq := HK.out.at HW7.out.hb 4 12 13 14 (x := u) rfl rfl rfl rfl
 go_wp2_with fail
 refine (RM.out _).mono ?_
 rintro e w8 ⟨rfl, hb8⟩
 have HW8 := Hi (HW7.out.below hb8)
 have HV8 := Hi (HV7.out.below hb8)
 clear xx HW7 HV7 hb8 RM pq
 have xx := HW8.out.all
 have pq := HK.out.at HW8.out.hb 4 12 13 14 (x := u) rfl rfl rfl rfl
 clear HK HS HV8 HNX HLE
 generalize u.kind = uk at *
 go_wp2_with fail
 refine ZH (q := false) HW8.out.hr ?_ ?_ ?_
 · rfl
 · rfl
 · exact .no HO.out (YN HW8.out.hb)
theorem body_sto3 {t s m z u : Tok} {d : List Tok} {mo : Nat} {si : Bool} (A : Option Addr) (k : Nat) (tag : List UInt8) (hl : (t :: s :: m :: z :: u :: d).length ≤ 10000) (htx : ∀ x ∈ (t :: s :: m :: z :: u :: d), x.kind ≤ 6 ∧ x.text.length ≤ 9000) (w : World) (hS : SlAt encT 3 w A (t :: s :: m :: z :: u :: d)) (h4 : t.kind = 4) (h : 6 < YC t.text) (hs : s.kind = 1) (hm : m.kind = 4) (hp : (YP m.text).2 = true) (hz : z.kind = 1) (h7 : YC t.text ≠ 7) (hu : u.kind = 4) (hmo : modeL u.text = some (mo, si)) (hd : d.length < 2) :
 Calls Tryz.prog 64 #[.string ⟨tag.toArray⟩, .slice A (t :: s :: m :: z :: u :: d).length k] w (ZZ (YM tag (t :: s :: m :: z :: u :: d)) w) := by
 obtain ⟨O, hO⟩ : ∃ O, YM tag (t :: s :: m :: z :: u :: d) = O := ⟨_, rfl⟩
 obtain ⟨n, hn⟩ : ∃ n, (t :: s :: m :: z :: u :: d).length = n := ⟨_, rfl⟩
 rw [hO, hn]
 have HS := Hi hS
 have HTX := Hi htx
 have hn0 : 0 < n := by rw [← hn]; simp
 have g0 : ((n : Int) == 0) = false := by simp; omega
 have g0' : ¬ (n : Int) = 0 := by omega
 have hn3 : 3 ≤ n := by rw [← hn]; simp
 have d3 : decide ((n : Int) < 3) = false := by simp; omega
 have d3' : decide (n < 3) = false := by simp; omega
 obtain ⟨b, off, rfl, hb0, _, _, _⟩ := tk_at HS.out (j := 0) (by simp)
 have HK := Hi (tokAt HS.out)
 have HO : Hid (O = none) := Hi (by rw [← hO, bodyR_sto tag h4 h hs hm hp hz h7]; exact stoR_short _ hd)
 have m4 : ((m.kind : Int) != 4) = false := by rw [hm]; rfl
 have d5 : decide ((n : Int) < 5) = false := by rw [← hn]; simp; omega
 have d5' : decide (n < 5) = false := by rw [← hn]; simp
 have f3 : (((letN z.kind).toNat : Int) != 115) = false := by rw [hz]; decide
 have hn5 : 5 ≤ n := by rw [← hn]; simp
 have e7 : (((YC t.text : Nat) : Int) == 7) = false := by simp; omega
 have e7' : ¬ (((YC t.text : Nat) : Int) = 7) := by omega
 have hlu := (htx u (by simp)).2
 have RM := Hi (fun W => rmode_any u.text (by omega) W)
 have u4 : ((u.kind : Int) != 4) = false := by rw [hu]; rfl
 rw [hmo] at RM
 unfold modeZ at RM
 have l0 : decide (((mo : Nat) : Int) < 0) = false := by simp
 have d7 : decide ((n : Int) < 7) = true := by rw [← hn]; simp at hd ⊢; omega
 have d7' : decide (n < 7) = true := by rw [← hn]; simp at hd ⊢; omega
 clear hmo hu hd
 clear h7 hz hlu
 have e6 : decide ((((YC t.text : Nat) : Int) ≤ 6)) = false := by simp; omega
 have e6' : decide (YC t.text ≤ 6) = false := by simp; omega
 have f2 : (((letN s.kind).toNat : Int) != 115) = false := by rw [hs]; decide
 have hmt := (htx m (by simp)).2
 have R2 := Hi (fun W => ZW m.text (by omega) W)
 have e0 : (((YC t.text : Nat) : Int) == 0) = false := by simp; omega
 have e4 : decide ((((YC t.text : Nat) : Int) ≤ 4)) = false := by simp; omega
 have e4' : decide (YC t.text ≤ 4) = false := by simp; omega
 clear h
 have KK := Hi (fun W (hW : Below w.heap.size w W) => ZN (some ⟨b, off, none⟩) k (t :: s :: m :: z :: u :: d) hl (fun x' hx' => (HTX.out x' hx').1) W (HS.out.below hW))
 obtain ⟨KS, hKS⟩ : ∃ KS : ByteArray, (⟨(YK (t :: s :: m :: z :: u :: d)).toArray⟩ : ByteArray) = KS := ⟨_, rfl⟩
 rw [hKS, hn] at KK
 have ks0 : KS.size = n := by rw [← hKS, ← hn]; show (YK (t :: s :: m :: z :: u :: d)).toArray.size = _; simp [YK]
 have ks1 : 1 < KS.size := by rw [ks0, ← hn]; simp
 have kb1 : KS[1]'ks1 = letN s.kind := by subst hKS; simp [ByteArray.getElem_eq_getElem_data, YK]
 have ks3 : 3 < KS.size := by rw [ks0, ← hn]; simp
 have kb3 : KS[3]'ks3 = letN z.kind := by subst hKS; simp [ByteArray.getElem_eq_getElem_data, YK]
 clear hO hS htx hl hn hKS hs hmt
 have f1 : ((t.kind : Int) != 4) = false := by rw [h4]; rfl
 have hlt := (HTX.out t (by simp)).2
 have KD := Hi (fun W => YZ ⟨t.text.toArray⟩ (by show t.text.toArray.size ≤ _; simp; omega) W)
 have KD : Hid (∀ W, Calls Tryz.prog 96 #[.string ⟨t.text.toArray⟩] W fun e w' => e = .returned (.int .i64 (YC t.text : Nat)) ∧ Below W.heap.size W w') := KD
 have HW := Hi (BW.start w tag)
 go_enter Tryz.func64, Tryz.ntmps64
 go_upto_region 2 with (fail)
 generalize ((w.alloc (.cells #[.string ⟨#[]⟩, .int .i64 0, .string ⟨#[]⟩, .slice none 0 0, .int .i64 0, .int .i64 0, .bool false, .int .u8 0, .slice none 0 0] 26)).alloc (.cells #[.string ⟨tag.toArray⟩, .int .i64 0, .string ⟨#[]⟩, .slice none 0 0, .int .i64 0, .int .i64 0, .bool false, .int .u8 0, .slice none 0 0] 26)) = W2 at *
 have xx := HW.out.all
 have k0 : W2.cell? ⟨b, off, none⟩ = some (.int .i64 (t.kind : Int)) := (HK.out W2 HW.out.hb 0 (by simp)).1
 have k1 : W2.cell? ⟨b, off + 1, none⟩ = some (.string ⟨t.text.toArray⟩) := (HK.out W2 HW.out.hb 0 (by simp)).2.1
 generalize YC t.text = kd at *
 generalize t.kind = tk at *
 go_wp2_with fail
 refine (KD.out _).mono ?_
 rintro e w3 ⟨rfl, hb3⟩
 have HW3 := Hi (HW.out.below hb3)
 clear xx KD HW hb3 k0 k1
 have xx := HW3.out.all
 have HW4 := Hi (HW3.out.set1 (.int .i64 (kd : Int)))
 go_upto_region 5 with (fail)
 clear xx HW3
 generalize w3.setCell ⟨w.heap.size + 1, 1, none⟩ (.int .i64 (kd : Int)) = w4 at *
 have xx := HW4.out.all
 go_wp2_with fail
 refine (KK.out _ HW4.out.hb).mono ?_
 rintro e w5 ⟨rfl, hb5⟩
 have HW5 := Hi (HW4.out.below hb5)
 clear xx HW4 hb5 KK HTX
 have xx := HW5.out.all
 generalize letN s.kind = y at *
 have pq := HK.out.at HW5.out.hb 2 6 7 8 (x := m) rfl rfl rfl rfl
 generalize YP m.text = pp at *
 go_wp2_with fail
 refine (R2.out _).mono ?_
 rintro e w6 ⟨v, rfl, hO, hb6⟩
 have HW6 := Hi (HW5.out.below hb6)
 have hnx : ∀ b off s n c, v = .slice (some ⟨b, off, s⟩) n c → w.heap.size + 2 ≤ b := fun b off s n c e => by
  have := (hO.lt b (by rw [e]; rfl)).1
  have := HW5.out.hs
  omega
 obtain ⟨A', c', rfl⟩ := YV hO
 have hle : pp.1.length ≤ c' := by
  rcases hO.2 with ⟨h1, h0⟩ | ⟨g, cap, cur, h1, _, _, hn, _⟩
  · omega
  · injection h1 with _ _ h3
    omega
 have HV := Hi (SlAt.of_own encR_len hO)
 have HNX : Hid (∀ b off s, A' = some ⟨b, off, s⟩ → w.heap.size + 2 ≤ b) := Hi (fun b off s e => hnx b off s _ _ (by rw [e]))
 have HLE := Hi hle
 clear xx HW5 hb6 R2 hO hnx hle pq
 have xx := HW6.out.all
 have pq := HK.out.at HW6.out.hb 2 6 7 8 (x := m) rfl rfl rfl rfl
 obtain ⟨st, ok⟩ := pp
 simp only at hp
 subst hp
 simp only at HV HLE HW6 HO xx
 have HW7 := Hi (HW6.out.set3 (.slice A' st.length c'))
 have HV7 := Hi (slAt_setx HV.out HNX.out 3 (.slice A' st.length c'))
 go_upto_region 23 with (fail)
 clear xx HW6 HV pq
 generalize w6.setCell ⟨w.heap.size + 1, 3, none⟩ (.slice A' st.length c') = w7 at *
 have xx := HW7.out.all
 clear hm
 generalize m.kind = mk at *
 generalize letN z.kind = zk at *
 have pq := HK.out.at HW7.out.hb 4 12 13 14 (x := u) rfl rfl rfl rfl
 go_wp2_with fail
 refine (RM.out _).mono ?_
 rintro e w8 ⟨rfl, hb8⟩
 have HW8 := Hi (HW7.out.below hb8)
 have HV8 := Hi (HV7.out.below hb8)
 clear xx HW7 HV7 hb8 RM pq
 have xx := HW8.out.all
 have pq := HK.out.at HW8.out.hb 4 12 13 14 (x := u) rfl rfl rfl rfl
 clear HK HS HV8 HNX HLE
 generalize u.kind = uk at *
 go_wp2_with fail
 refine ZH (q := false) HW8.out.hr ?_ ?_ ?_
 · rfl
 · rfl
 · exact .no HO.out (YN HW8.out.hb)
theorem body_sto4 {t s m z u v g : Tok} {d : List Tok} {mo : Nat} {si : Bool} (A : Option Addr) (k : Nat) (tag : List UInt8) (hl : (t :: s :: m :: z :: u :: v :: g :: d).length ≤ 10000) (htx : ∀ x ∈ (t :: s :: m :: z :: u :: v :: g :: d), x.kind ≤ 6 ∧ x.text.length ≤ 9000) (w : World) (hS : SlAt encT 3 w A (t :: s :: m :: z :: u :: v :: g :: d)) (h4 : t.kind = 4) (h : 6 < YC t.text) (hs : s.kind = 1) (hm : m.kind = 4) (hp : (YP m.text).2 = true) (hz : z.kind = 1) (h7 : YC t.text ≠ 7) (hu : u.kind = 4) (hmo : modeL u.text = some (mo, si)) (hv : v.kind ≠ 1) :
 Calls Tryz.prog 64 #[.string ⟨tag.toArray⟩, .slice A (t :: s :: m :: z :: u :: v :: g :: d).length k] w (ZZ (YM tag (t :: s :: m :: z :: u :: v :: g :: d)) w) := by
 obtain ⟨O, hO⟩ : ∃ O, YM tag (t :: s :: m :: z :: u :: v :: g :: d) = O := ⟨_, rfl⟩
 obtain ⟨n, hn⟩ : ∃ n, (t :: s :: m :: z :: u :: v :: g :: d).length = n := ⟨_, rfl⟩
 rw [hO, hn]
 have HS := Hi hS
 have HTX := Hi htx
 have hn0 : 0 < n := by rw [← hn]; simp
 have g0 : ((n : Int) == 0) = false := by simp; omega
 have g0' : ¬ (n : Int) = 0 := by omega
 have hn3 : 3 ≤ n := by rw [← hn]; simp
 have d3 : decide ((n : Int) < 3) = false := by simp; omega
 have d3' : decide (n < 3) = false := by simp; omega
 obtain ⟨b, off, rfl, hb0, _, _, _⟩ := tk_at HS.out (j := 0) (by simp)
 have HK := Hi (tokAt HS.out)
 have HO : Hid (O = none) := Hi (by rw [← hO, bodyR_sto tag h4 h hs hm hp hz h7]; exact stoR_nos _ hv)
 have m4 : ((m.kind : Int) != 4) = false := by rw [hm]; rfl
 have d5 : decide ((n : Int) < 5) = false := by rw [← hn]; simp; omega
 have d5' : decide (n < 5) = false := by rw [← hn]; simp
 have f3 : (((letN z.kind).toNat : Int) != 115) = false := by rw [hz]; decide
 have hn5 : 5 ≤ n := by rw [← hn]; simp
 have e7 : (((YC t.text : Nat) : Int) == 7) = false := by simp; omega
 have e7' : ¬ (((YC t.text : Nat) : Int) = 7) := by omega
 have hlu := (htx u (by simp)).2
 have RM := Hi (fun W => rmode_any u.text (by omega) W)
 have u4 : ((u.kind : Int) != 4) = false := by rw [hu]; rfl
 rw [hmo] at RM
 unfold modeZ at RM
 have l0 : decide (((mo : Nat) : Int) < 0) = false := by simp
 have d7 : decide ((n : Int) < 7) = false := by rw [← hn]; simp; omega
 have d7' : decide (n < 7) = false := by rw [← hn]; simp
 have f5 : (((letN v.kind).toNat : Int) != 115) = true := by
  have hv6 := (htx v (by simp)).1
  have : ¬ letN v.kind = 115 := fun e => hv ((letN_s hv6).1 e)
  have : ¬ (letN v.kind).toNat = 115 := fun e => this (UInt8.toNat_inj.1 e)
  simp; omega
 clear hmo hu hv
 clear h7 hz hlu
 have e6 : decide ((((YC t.text : Nat) : Int) ≤ 6)) = false := by simp; omega
 have e6' : decide (YC t.text ≤ 6) = false := by simp; omega
 have f2 : (((letN s.kind).toNat : Int) != 115) = false := by rw [hs]; decide
 have hmt := (htx m (by simp)).2
 have R2 := Hi (fun W => ZW m.text (by omega) W)
 have e0 : (((YC t.text : Nat) : Int) == 0) = false := by simp; omega
 have e4 : decide ((((YC t.text : Nat) : Int) ≤ 4)) = false := by simp; omega
 have e4' : decide (YC t.text ≤ 4) = false := by simp; omega
 clear h
 have KK := Hi (fun W (hW : Below w.heap.size w W) => ZN (some ⟨b, off, none⟩) k (t :: s :: m :: z :: u :: v :: g :: d) hl (fun x' hx' => (HTX.out x' hx').1) W (HS.out.below hW))
 obtain ⟨KS, hKS⟩ : ∃ KS : ByteArray, (⟨(YK (t :: s :: m :: z :: u :: v :: g :: d)).toArray⟩ : ByteArray) = KS := ⟨_, rfl⟩
 rw [hKS, hn] at KK
 have ks0 : KS.size = n := by rw [← hKS, ← hn]; show (YK (t :: s :: m :: z :: u :: v :: g :: d)).toArray.size = _; simp [YK]
 have ks1 : 1 < KS.size := by rw [ks0, ← hn]; simp
 have kb1 : KS[1]'ks1 = letN s.kind := by subst hKS; simp [ByteArray.getElem_eq_getElem_data, YK]
 have ks3 : 3 < KS.size := by rw [ks0, ← hn]; simp
 have kb3 : KS[3]'ks3 = letN z.kind := by subst hKS; simp [ByteArray.getElem_eq_getElem_data, YK]
 have ks5 : 5 < KS.size := by rw [ks0, ← hn]; simp
 have kb5 : KS[5]'ks5 = letN v.kind := by subst hKS; simp [ByteArray.getElem_eq_getElem_data, YK]
 clear hO hS htx hl hn hKS hs hmt
 have f1 : ((t.kind : Int) != 4) = false := by rw [h4]; rfl
 have hlt := (HTX.out t (by simp)).2
 have KD := Hi (fun W => YZ ⟨t.text.toArray⟩ (by show t.text.toArray.size ≤ _; simp; omega) W)
 have KD : Hid (∀ W, Calls Tryz.prog 96 #[.string ⟨t.text.toArray⟩] W fun e w' => e = .returned (.int .i64 (YC t.text : Nat)) ∧ Below W.heap.size W w') := KD
 have HW := Hi (BW.start w tag)
 go_enter Tryz.func64, Tryz.ntmps64
 go_upto_region 2 with (fail)
 generalize ((w.alloc (.cells #[.string ⟨#[]⟩, .int .i64 0, .string ⟨#[]⟩, .slice none 0 0, .int .i64 0, .int .i64 0, .bool false, .int .u8 0, .slice none 0 0] 26)).alloc (.cells #[.string ⟨tag.toArray⟩, .int .i64 0, .string ⟨#[]⟩, .slice none 0 0, .int .i64 0, .int .i64 0, .bool false, .int .u8 0, .slice none 0 0] 26)) = W2 at *
 have xx := HW.out.all
 have k0 : W2.cell? ⟨b, off, none⟩ = some (.int .i64 (t.kind : Int)) := (HK.out W2 HW.out.hb 0 (by simp)).1
 have k1 : W2.cell? ⟨b, off + 1, none⟩ = some (.string ⟨t.text.toArray⟩) := (HK.out W2 HW.out.hb 0 (by simp)).2.1
 generalize YC t.text = kd at *
 generalize t.kind = tk at *
 go_wp2_with fail
 refine (KD.out _).mono ?_
 rintro e w3 ⟨rfl, hb3⟩
 have HW3 := Hi (HW.out.below hb3)
 clear xx KD HW hb3 k0 k1
 have xx := HW3.out.all
 have HW4 := Hi (HW3.out.set1 (.int .i64 (kd : Int)))
 go_upto_region 5 with (fail)
 clear xx HW3
 generalize w3.setCell ⟨w.heap.size + 1, 1, none⟩ (.int .i64 (kd : Int)) = w4 at *
 have xx := HW4.out.all
 go_wp2_with fail
 refine (KK.out _ HW4.out.hb).mono ?_
 rintro e w5 ⟨rfl, hb5⟩
 have HW5 := Hi (HW4.out.below hb5)
 clear xx HW4 hb5 KK HTX
 have xx := HW5.out.all
 generalize letN s.kind = y at *
 have pq := HK.out.at HW5.out.hb 2 6 7 8 (x := m) rfl rfl rfl rfl
 generalize YP m.text = pp at *
 go_wp2_with fail
 refine (R2.out _).mono ?_
 rintro e w6 ⟨v, rfl, hO, hb6⟩
 have HW6 := Hi (HW5.out.below hb6)
 have hnx : ∀ b off s n c, v = .slice (some ⟨b, off, s⟩) n c → w.heap.size + 2 ≤ b := fun b off s n c e => by
  have := (hO.lt b (by rw [e]; rfl)).1
  have := HW5.out.hs
  omega
 obtain ⟨A', c', rfl⟩ := YV hO
 have hle : pp.1.length ≤ c' := by
  rcases hO.2 with ⟨h1, h0⟩ | ⟨g, cap, cur, h1, _, _, hn, _⟩
  · omega
  · injection h1 with _ _ h3
    omega
 have HV := Hi (SlAt.of_own encR_len hO)
 have HNX : Hid (∀ b off s, A' = some ⟨b, off, s⟩ → w.heap.size + 2 ≤ b) := Hi (fun b off s e => hnx b off s _ _ (by rw [e]))
 have HLE := Hi hle
 clear xx HW5 hb6 R2 hO hnx hle pq
 have xx := HW6.out.all
 have pq := HK.out.at HW6.out.hb 2 6 7 8 (x := m) rfl rfl rfl rfl
 obtain ⟨st, ok⟩ := pp
 simp only at hp
 subst hp
 simp only at HV HLE HW6 HO xx
 have HW7 := Hi (HW6.out.set3 (.slice A' st.length c'))
 have HV7 := Hi (slAt_setx HV.out HNX.out 3 (.slice A' st.length c'))
 go_upto_region 23 with (fail)
 clear xx HW6 HV pq
 generalize w6.setCell ⟨w.heap.size + 1, 3, none⟩ (.slice A' st.length c') = w7 at *
 have xx := HW7.out.all
 clear hm
 generalize m.kind = mk at *
 generalize letN z.kind = zk at *
 have pq := HK.out.at HW7.out.hb 4 12 13 14 (x := u) rfl rfl rfl rfl
 go_wp2_with fail
 refine (RM.out _).mono ?_
 rintro e w8 ⟨rfl, hb8⟩
 have HW8 := Hi (HW7.out.below hb8)
 have HV8 := Hi (HV7.out.below hb8)
 clear xx HW7 HV7 hb8 RM pq
 have xx := HW8.out.all
 have pq := HK.out.at HW8.out.hb 4 12 13 14 (x := u) rfl rfl rfl rfl
 clear HK HS HV8 HNX HLE
 generalize u.kind = uk at *
 generalize letN v.kind = vk at *
 go_wp2_with fail
 refine ZH (q := false) HW8.out.hr ?_ ?_ ?_
 · rfl
 · rfl
 · exact .no HO.out (YN HW8.out.hb)
theorem body_sto5 {t s m z u v g : Tok} {d : List Tok} {mo : Nat} {si : Bool} (A : Option Addr) (k : Nat) (tag : List UInt8) (hl : (t :: s :: m :: z :: u :: v :: g :: d).length ≤ 10000) (hc : (t :: s :: m :: z :: u :: v :: g :: d).length ≤ k) (htx : ∀ x ∈ (t :: s :: m :: z :: u :: v :: g :: d), x.kind ≤ 6 ∧ x.text.length ≤ 9000) (w : World) (hS : SlAt encT 3 w A (t :: s :: m :: z :: u :: v :: g :: d)) (h4 : t.kind = 4) (h : 6 < YC t.text) (hs : s.kind = 1) (hm : m.kind = 4) (hp : (YP m.text).2 = true) (hz : z.kind = 1) (h7 : YC t.text ≠ 7) (hu : u.kind = 4) (hmo : modeL u.text = some (mo, si)) (hv : v.kind = 1) :
 Calls Tryz.prog 64 #[.string ⟨tag.toArray⟩, .slice A (t :: s :: m :: z :: u :: v :: g :: d).length k] w (ZZ (YM tag (t :: s :: m :: z :: u :: v :: g :: d)) w) := by
 obtain ⟨O, hO⟩ : ∃ O, YM tag (t :: s :: m :: z :: u :: v :: g :: d) = O := ⟨_, rfl⟩
 obtain ⟨n, hn⟩ : ∃ n, (t :: s :: m :: z :: u :: v :: g :: d).length = n := ⟨_, rfl⟩
 rw [hO, hn]
 have HS := Hi hS
 have HTX := Hi htx
 have hn0 : 0 < n := by rw [← hn]; simp
 have g0 : ((n : Int) == 0) = false := by simp; omega
 have g0' : ¬ (n : Int) = 0 := by omega
 have hn3 : 3 ≤ n := by rw [← hn]; simp
 have d3 : decide ((n : Int) < 3) = false := by simp; omega
 have d3' : decide (n < 3) = false := by simp; omega
 have s0 := fun x lo hi mx W => sliceAtRT x lo hi mx W
 obtain ⟨A6, hA6⟩ : ∃ A6, offT A k 6 = A6 := ⟨_, rfl⟩
 have hn6 : n - 6 = (g :: d).length := by rw [← hn]; simp
 have S6 : Hid (∀ W, Below w.heap.size w W → SlAt encT 3 W A6 (g :: d)) := Hi (fun W hW => by
  have h := slAt_drop (c := k) (lo := 6) (hS.below hW) hc (by simp)
  rw [hA6] at h
  exact h)
 have s6 : ∀ W, (Instr.slice 94 (.slice A n k) (some (.int .i64 6)) none none).run Tryz.prog W = .ok (.slice A6 (g :: d).length (k - 6)) W := fun W => by
  have h := sliceRT_l A n k 6 (by rw [← hn]; simp) W
  rw [hA6, hn6] at h
  exact h
 have LI := Hi (fun W (hW : Below w.heap.size w W) => rlist_any false A6 (k - 6) (g :: d) (by simp only [List.length_cons] at hl ⊢; omega) (by simp only [List.length_cons] at hc ⊢; omega) (fun x' hx => ⟨(htx x' (by rcases List.mem_cons.1 hx with e | e <;> simp [e])).1, Nat.le_trans (htx x' (by rcases List.mem_cons.1 hx with e | e <;> simp [e])).2 (by omega)⟩) W (S6.out W hW))
 have WO := Hi (fun W (hW : Below w.heap.size w W) => rwords_any false A6 (k - 6) (g :: d) (by simp only [List.length_cons] at hl ⊢; omega) (fun x' hx => ⟨(htx x' (by rcases List.mem_cons.1 hx with e | e <;> simp [e])).1, Nat.le_trans (htx x' (by rcases List.mem_cons.1 hx with e | e <;> simp [e])).2 (by omega)⟩) W (S6.out W hW))
 obtain ⟨b, off, rfl, hb0, _, _, _⟩ := tk_at HS.out (j := 0) (by simp)
 have HK := Hi (tokAt HS.out)
 have HO : Hid (O = ((lsR false (g :: d)).or (wsR false (g :: d))).map fun gg => { ({ cmd0 tag with kind := YC t.text, set := (YP m.text).1 } : Cmd) with mode := mo, silent := si, flags := gg }) := Hi (by rw [← hO, bodyR_sto tag h4 h hs hm hp hz h7]; exact stoR_is _ hu hv hmo)
 have m4 : ((m.kind : Int) != 4) = false := by rw [hm]; rfl
 have d5 : decide ((n : Int) < 5) = false := by rw [← hn]; simp; omega
 have d5' : decide (n < 5) = false := by rw [← hn]; simp
 have f3 : (((letN z.kind).toNat : Int) != 115) = false := by rw [hz]; decide
 have hn5 : 5 ≤ n := by rw [← hn]; simp
 have e7 : (((YC t.text : Nat) : Int) == 7) = false := by simp; omega
 have e7' : ¬ (((YC t.text : Nat) : Int) = 7) := by omega
 have hlu := (htx u (by simp)).2
 have RM := Hi (fun W => rmode_any u.text (by omega) W)
 have u4 : ((u.kind : Int) != 4) = false := by rw [hu]; rfl
 rw [hmo] at RM
 unfold modeZ at RM
 have l0 : decide (((mo : Nat) : Int) < 0) = false := by simp
 have d7 : decide ((n : Int) < 7) = false := by rw [← hn]; simp; omega
 have d7' : decide (n < 7) = false := by rw [← hn]; simp
 have f5 : (((letN v.kind).toNat : Int) != 115) = false := by rw [hv]; decide
 generalize lsR false (g :: d) = SL at *
 generalize wsR false (g :: d) = SW at *
 clear hmo hu hv hn6 hA6 S6
 clear h7 hz hlu
 have e6 : decide ((((YC t.text : Nat) : Int) ≤ 6)) = false := by simp; omega
 have e6' : decide (YC t.text ≤ 6) = false := by simp; omega
 have f2 : (((letN s.kind).toNat : Int) != 115) = false := by rw [hs]; decide
 have hmt := (htx m (by simp)).2
 have R2 := Hi (fun W => ZW m.text (by omega) W)
 have e0 : (((YC t.text : Nat) : Int) == 0) = false := by simp; omega
 have e4 : decide ((((YC t.text : Nat) : Int) ≤ 4)) = false := by simp; omega
 have e4' : decide (YC t.text ≤ 4) = false := by simp; omega
 clear h
 have KK := Hi (fun W (hW : Below w.heap.size w W) => ZN (some ⟨b, off, none⟩) k (t :: s :: m :: z :: u :: v :: g :: d) hl (fun x' hx' => (HTX.out x' hx').1) W (HS.out.below hW))
 obtain ⟨KS, hKS⟩ : ∃ KS : ByteArray, (⟨(YK (t :: s :: m :: z :: u :: v :: g :: d)).toArray⟩ : ByteArray) = KS := ⟨_, rfl⟩
 rw [hKS, hn] at KK
 have ks0 : KS.size = n := by rw [← hKS, ← hn]; show (YK (t :: s :: m :: z :: u :: v :: g :: d)).toArray.size = _; simp [YK]
 have ks1 : 1 < KS.size := by rw [ks0, ← hn]; simp
 have kb1 : KS[1]'ks1 = letN s.kind := by subst hKS; simp [ByteArray.getElem_eq_getElem_data, YK]
 have ks3 : 3 < KS.size := by rw [ks0, ← hn]; simp
 have kb3 : KS[3]'ks3 = letN z.kind := by subst hKS; simp [ByteArray.getElem_eq_getElem_data, YK]
 have ks5 : 5 < KS.size := by rw [ks0, ← hn]; simp
 have kb5 : KS[5]'ks5 = letN v.kind := by subst hKS; simp [ByteArray.getElem_eq_getElem_data, YK]
 have hle6 : 6 ≤ n := by rw [← hn]; simp
 clear hO hS htx hc hl hn hKS hs hmt
 have f1 : ((t.kind : Int) != 4) = false := by rw [h4]; rfl
 have hlt := (HTX.out t (by simp)).2
 have KD := Hi (fun W => YZ ⟨t.text.toArray⟩ (by show t.text.toArray.size ≤ _; simp; omega) W)
 have KD : Hid (∀ W, Calls Tryz.prog 96 #[.string ⟨t.text.toArray⟩] W fun e w' => e = .returned (.int .i64 (YC t.text : Nat)) ∧ Below W.heap.size W w') := KD
 have HW := Hi (BW.start w tag)
 go_enter Tryz.func64, Tryz.ntmps64
 go_upto_region 2 with (fail)
 generalize ((w.alloc (.cells #[.string ⟨#[]⟩, .int .i64 0, .string ⟨#[]⟩, .slice none 0 0, .int .i64 0, .int .i64 0, .bool false, .int .u8 0, .slice none 0 0] 26)).alloc (.cells #[.string ⟨tag.toArray⟩, .int .i64 0, .string ⟨#[]⟩, .slice none 0 0, .int .i64 0, .int .i64 0, .bool false, .int .u8 0, .slice none 0 0] 26)) = W2 at *
 have xx := HW.out.all
 have k0 : W2.cell? ⟨b, off, none⟩ = some (.int .i64 (t.kind : Int)) := (HK.out W2 HW.out.hb 0 (by simp)).1
 have k1 : W2.cell? ⟨b, off + 1, none⟩ = some (.string ⟨t.text.toArray⟩) := (HK.out W2 HW.out.hb 0 (by simp)).2.1
 generalize YC t.text = kd at *
 generalize t.kind = tk at *
 go_wp2_with fail
 refine (KD.out _).mono ?_
 rintro e w3 ⟨rfl, hb3⟩
 have HW3 := Hi (HW.out.below hb3)
 clear xx KD HW hb3 k0 k1
 have xx := HW3.out.all
 have HW4 := Hi (HW3.out.set1 (.int .i64 (kd : Int)))
 go_upto_region 5 with (fail)
 clear xx HW3
 generalize w3.setCell ⟨w.heap.size + 1, 1, none⟩ (.int .i64 (kd : Int)) = w4 at *
 have xx := HW4.out.all
 go_wp2_with fail
 refine (KK.out _ HW4.out.hb).mono ?_
 rintro e w5 ⟨rfl, hb5⟩
 have HW5 := Hi (HW4.out.below hb5)
 clear xx HW4 hb5 KK HTX
 have xx := HW5.out.all
 generalize letN s.kind = y at *
 have pq := HK.out.at HW5.out.hb 2 6 7 8 (x := m) rfl rfl rfl rfl
 generalize YP m.text = pp at *
 go_wp2_with fail
 refine (R2.out _).mono ?_
 rintro e w6 ⟨v, rfl, hO, hb6⟩
 have HW6 := Hi (HW5.out.below hb6)
 have hnx : ∀ b off s n c, v = .slice (some ⟨b, off, s⟩) n c → w.heap.size + 2 ≤ b := fun b off s n c e => by
  have := (hO.lt b (by rw [e]; rfl)).1
  have := HW5.out.hs
  omega
 obtain ⟨A', c', rfl⟩ := YV hO
 have hle : pp.1.length ≤ c' := by
  rcases hO.2 with ⟨h1, h0⟩ | ⟨g, cap, cur, h1, _, _, hn, _⟩
  · omega
  · injection h1 with _ _ h3
    omega
 have HV := Hi (SlAt.of_own encR_len hO)
 have HNX : Hid (∀ b off s, A' = some ⟨b, off, s⟩ → w.heap.size + 2 ≤ b) := Hi (fun b off s e => hnx b off s _ _ (by rw [e]))
 have HLE := Hi hle
 clear xx HW5 hb6 R2 hO hnx hle pq
 have xx := HW6.out.all
 have pq := HK.out.at HW6.out.hb 2 6 7 8 (x := m) rfl rfl rfl rfl
 obtain ⟨st, ok⟩ := pp
 simp only at hp
 subst hp
 simp only at HV HLE HW6 HO xx
 have HW7 := Hi (HW6.out.set3 (.slice A' st.length c'))
 have HV7 := Hi (slAt_setx HV.out HNX.out 3 (.slice A' st.length c'))
 go_upto_region 23 with (fail)
 clear xx HW6 HV pq
 generalize w6.setCell ⟨w.heap.size + 1, 3, none⟩ (.slice A' st.length c') = w7 at *
 have xx := HW7.out.all
 clear hm
 generalize m.kind = mk at *
 generalize letN z.kind = zk at *
 have pq := HK.out.at HW7.out.hb 4 12 13 14 (x := u) rfl rfl rfl rfl
 go_wp2_with fail
 refine (RM.out _).mono ?_
 rintro e w8 ⟨rfl, hb8⟩
 have HW8 := Hi (HW7.out.below hb8)
 have HV8 := Hi (HV7.out.below hb8)
 clear xx HW7 HV7 hb8 RM pq
 have xx := HW8.out.all
 have pq := HK.out.at HW8.out.hb 4 12 13 14 (x := u) rfl rfl rfl rfl
 clear HK HS
 generalize u.kind = uk at *
 generalize letN v.kind = vk at *
 generalize (g :: d).length = n6 at *
 have HW9 := Hi ((HW8.out.set5 (.int .i64 (mo : Int))).set6 (.bool si))
 have HV9 := Hi (slAt_setx (slAt_setx HV8.out HNX.out 5 (.int .i64 (mo : Int))) HNX.out 6 (.bool si))
 go_upto_region 34 with (fail)
 clear xx HW8 HV8 pq
 generalize (w8.setCell ⟨w.heap.size + 1, 5, none⟩ (.int .i64 (mo : Int))).setCell ⟨w.heap.size + 1, 6, none⟩ (.bool si) = w9 at *
 have xx := HW9.out.all
 go_wp2_with fail
 refine (LI.out _ HW9.out.hb).mono ?_
 rintro e w10 ⟨i1, q1, rfl, hs1, hq1, hb10⟩
 have HW10 := Hi (HW9.out.below hb10)
 have HV10 := Hi (HV9.out.below hb10)
 clear xx HW9 HV9 hb10 LI
 have xx := HW10.out.all
 cases q1 with
 | true =>
   have hw8 := u8_wrap hs1
   have HW12 := Hi (HW10.out.set7 (.int .u8 (i1 : Int)))
   have HV12 := Hi (slAt_setx HV10.out HNX.out 7 (.int .u8 (i1 : Int)))
   go_upto_region 38 with (fail)
   clear xx HW10 HV10
   generalize w10.setCell ⟨w.heap.size + 1, 7, none⟩ (.int .u8 (i1 : Int)) = w12 at *
   have xx := HW12.out.all
   have HO : Hid (O = some { cmd0 tag with kind := kd, set := st, mode := mo, silent := si, flags := i1 }) := Hi (by rw [HO.out, hq1.out]; rfl)
   go_wp2_with fail
   refine ZH (q := true) HW12.out.hr ?_ ?_ ?_
   · rfl
   · rfl
   · exact .sets (c := { cmd0 tag with kind := kd, set := st, mode := mo, silent := si, flags := i1 }) HO.out rfl HV12.out HLE.out (stC_grown _ _ _ _ _ _ _ _ _ _ _) HNX.out (YN HW12.out.hb)
 | false =>
   have HO1 : Hid (O = SW.map fun gg => { ({ cmd0 tag with kind := kd, set := st } : Cmd) with mode := mo, silent := si, flags := gg }) := Hi (by rw [HO.out, hq1.out]; rfl)
   go_wp2_with fail
   refine (WO.out _ HW10.out.hb).mono ?_
   rintro e w11 ⟨i2, q2, rfl, hs2, hq2, hb11⟩
   have HW11 := Hi (HW10.out.below hb11)
   have HV11 := Hi (HV10.out.below hb11)
   clear xx HW10 HV10 hb11 WO
   have xx := HW11.out.all
   have hw8 := u8_wrap hs2
   have HW12 := Hi (HW11.out.set7 (.int .u8 (i2 : Int)))
   have HV12 := Hi (slAt_setx HV11.out HNX.out 7 (.int .u8 (i2 : Int)))
   go_upto_region 38 with (fail)
   clear xx HW11 HV11
   generalize w11.setCell ⟨w.heap.size + 1, 7, none⟩ (.int .u8 (i2 : Int)) = w12 at *
   have xx := HW12.out.all
   cases q2 with
   | true =>
     have HO : Hid (O = some { cmd0 tag with kind := kd, set := st, mode := mo, silent := si, flags := i2 }) := Hi (by rw [HO1.out, hq2.out]; rfl)
     go_wp2_with fail
     refine ZH (q := true) HW12.out.hr ?_ ?_ ?_
     · rfl
     · rfl
     · exact .sets (c := { cmd0 tag with kind := kd, set := st, mode := mo, silent := si, flags := i2 }) HO.out rfl HV12.out HLE.out (stC_grown _ _ _ _ _ _ _ _ _ _ _) HNX.out (YN HW12.out.hb)
   | false =>
     have HO : Hid (O = none) := Hi (by rw [HO1.out, hq2.out]; rfl)
     go_wp2_with fail
     refine ZH (q := false) HW12.out.hr ?_ ?_ ?_
     · rfl
     · rfl
     · exact .no HO.out (YN HW12.out.hb)
theorem body_any (A : Option Addr) (k : Nat) (tag : List UInt8) (ts : List Tok) (hl : ts.length ≤ 10000) (hc : ts.length ≤ k) (htx : ∀ x ∈ ts, x.kind ≤ 6 ∧ x.text.length ≤ 9000) (w : World) (hS : SlAt encT 3 w A ts) :
 Calls Tryz.prog 64 #[.string ⟨tag.toArray⟩, .slice A ts.length k] w (ZZ (YM tag ts) w) := by
 rcases ts with _ | ⟨t, r⟩
 · exact body_nil A k tag w
 by_cases h4 : t.kind = 4
 rotate_left
 · exact body_no4 A k tag hl htx w hS h4
 by_cases h0 : YC t.text = 0
 · exact body_zero A k tag hl htx w hS h4 h0
 by_cases hle : YC t.text ≤ 4
 · by_cases hr : r = []
   · exact body_one A k tag hl htx w hS h4 h0 hle hr
   · exact body_many A k tag hl htx w hS h4 h0 hle hr
 have h : 4 < YC t.text := by omega
 rcases r with _ | ⟨s, _ | ⟨m, q⟩⟩
 · exact body_short A k tag hl htx w hS h4 h (by simp)
 · exact body_short A k tag hl htx w hS h4 h (by simp)
 by_cases hs : s.kind = 1
 rotate_left
 · exact body_nos A k tag hl htx w hS h4 h hs
 by_cases h6 : YC t.text ≤ 6
 · cases hm : mboxR m with
   | false => exact body_nomb A k tag hl htx w hS h4 h h6 hs hm
   | true =>
     by_cases h5 : YC t.text = 5
     · rcases q with _ | ⟨z, d⟩
       · exact body_sel A k tag hl htx w hS h4 h h6 hs hm h5
       · exact body_sel2 A k tag hl htx w hS h4 h h6 hs hm h5
     · rcases q with _ | ⟨z, d⟩
       · exact body_app0 A k tag hl htx w hS h4 h h6 hs hm h5
       · by_cases hz : z.kind = 1
         · exact body_app A k tag hl hc htx w hS h4 h h6 hs hm h5 hz
         · exact body_app1 A k tag hl htx w hS h4 h h6 hs hm h5 hz
 · have h6 : 6 < YC t.text := by omega
   by_cases hm : m.kind = 4
   rotate_left
   · exact body_set1 A k tag hl htx w hS h4 h6 hs hm
   cases hp : (YP m.text).2 with
   | false => exact body_set2 A k tag hl htx w hS h4 h6 hs hm hp
   | true =>
     rcases q with _ | ⟨z, _ | ⟨u, d⟩⟩
     · exact body_set3 A k tag hl htx w hS h4 h6 hs hm hp (by simp)
     · exact body_set3 A k tag hl htx w hS h4 h6 hs hm hp (by simp)
     by_cases hz : z.kind = 1
     rotate_left
     · exact body_set4 A k tag hl htx w hS h4 h6 hs hm hp hz
     by_cases h7 : YC t.text = 7
     · by_cases hd : d = []
       · exact body_fet1 A k tag hl hc htx w hS h4 h6 hs hm hp hz h7 hd
       · exact body_fet2 A k tag hl hc htx w hS h4 h6 hs hm hp hz h7 hd
     by_cases hu : u.kind = 4
     rotate_left
     · exact body_sto1 A k tag hl htx w hS h4 h6 hs hm hp hz h7 hu
     cases hmo : modeL u.text with
     | none => exact body_sto2 A k tag hl htx w hS h4 h6 hs hm hp hz h7 hu hmo
     | some p =>
       obtain ⟨mo, si⟩ := p
       rcases d with _ | ⟨v, _ | ⟨x, d⟩⟩
       · exact body_sto3 A k tag hl htx w hS h4 h6 hs hm hp hz h7 hu hmo (by simp)
       · exact body_sto3 A k tag hl htx w hS h4 h6 hs hm hp hz h7 hu hmo (by simp)
       by_cases hv : v.kind = 1
       · exact body_sto5 A k tag hl hc htx w hS h4 h6 hs hm hp hz h7 hu hmo hv
       · exact body_sto4 A k tag hl htx w hS h4 h6 hs hm hp hz h7 hu hmo hv
theorem rparse_none (B c : Nat) (A : Option Addr) (l : List UInt8) (hl : l.length ≤ 9000) (w : World) (hA : ByAt B w A c l) (hno : tagO l = none) :
 Calls Tryz.prog 31 #[.slice A l.length c] w (CPost l w) := by
 have HB := Hi (YB w (.cells #[.string ⟨#[]⟩, .int .i64 0, .string ⟨#[]⟩, .slice none 0 0, .int .i64 0, .int .i64 0, .bool false, .int .u8 0, .slice none 0 0] 26))
 have HR := Hi (YD w (.cells #[.string ⟨#[]⟩, .int .i64 0, .string ⟨#[]⟩, .slice none 0 0, .int .i64 0, .int .i64 0, .bool false, .int .u8 0, .slice none 0 0] 26))
 have TG := Hi (fun W (hW : Below w.heap.size w W) => refTagTok_any B A c l l.length rfl (by omega) W (hA.grow hW))
 rw [show tagV l = .tuple #[.string ⟨#[]⟩, .int .i64 0, .bool false] by unfold tagV; rw [hno]] at TG
 have HNO := Hi hno
 clear hA hl hno
 go_enter Tryz.func31, Tryz.ntmps31
 go_upto_region 1 with (fail)
 generalize w.alloc (.cells #[.string ⟨#[]⟩, .int .i64 0, .string ⟨#[]⟩, .slice none 0 0, .int .i64 0, .int .i64 0, .bool false, .int .u8 0, .slice none 0 0] 26) = w1 at *
 obtain ⟨z0, z1, z2, z3, z4, z5, z6, z7, z8⟩ := ZS HR.out
 have ur := fun j => Joins.unfrozen_of_block HR.out j
 go_wp2_with fail
 refine (TG.out _ HB.out).mono ?_
 rintro e w2 ⟨rfl, rfl⟩
 go_wp2_with fail
 refine rparse_fin (q := false) HR.out ?_ ?_ ?_
 · rfl
 · rfl
 · exact ⟨cmd0 [], false, _, .noTag HNO.out, rfl, ⟨CmdV.zero _ [], NewV.zero _ []⟩, YN HB.out⟩
theorem tag_len {l t : List UInt8} (hno : tagO l = some t) : t.length + 1 ≤ l.length := by
 unfold tagO at hno
 split at hno
 · rename_i h
   simp at hno
   have := (List.getElem?_eq_some_iff.1 h.2).1
   rw [hno] at this
   omega
 · cases hno
theorem rparse_some (B c : Nat) (A : Option Addr) (l t : List UInt8) (hl : l.length ≤ 9000) (w : World) (hA : ByAt B w A c l) (hno : tagO l = some t) :
 Calls Tryz.prog 31 #[.slice A l.length c] w (CPost l w) := by
 have HB := Hi (YB w (.cells #[.string ⟨#[]⟩, .int .i64 0, .string ⟨#[]⟩, .slice none 0 0, .int .i64 0, .int .i64 0, .bool false, .int .u8 0, .slice none 0 0] 26))
 have HR := Hi (YD w (.cells #[.string ⟨#[]⟩, .int .i64 0, .string ⟨#[]⟩, .slice none 0 0, .int .i64 0, .int .i64 0, .bool false, .int .u8 0, .slice none 0 0] 26))
 have HSZ : Hid (_ = w.heap.size + 1) := Hi (World.size_alloc w (.cells #[.string ⟨#[]⟩, .int .i64 0, .string ⟨#[]⟩, .slice none 0 0, .int .i64 0, .int .i64 0, .bool false, .int .u8 0, .slice none 0 0] 26))
 have TG := Hi (fun W (hW : Below w.heap.size w W) => refTagTok_any B A c l l.length rfl (by omega) W (hA.grow hW))
 obtain ⟨n, hn⟩ : ∃ n, t.length + 1 = n := ⟨_, rfl⟩
 have hnl := tag_len hno
 rw [hn] at hnl
 rw [show tagV l = .tuple #[.string ⟨t.toArray⟩, .int .i64 (n : Int), .bool true] by unfold tagV; rw [hno, ← hn]; rfl] at TG
 have hse := fun x lo hi mx W => YY x lo hi mx W
 have hsl := fun W => slice_l A l.length c n hnl W
 have TK := Hi (fun W (hW : Below w.heap.size w W) => refTokens_any B (c - n) (offA A c n) (l.drop n) (by rw [List.length_drop]; omega) W ((hA.grow hW).drop hnl))
 simp only [List.length_drop] at TK
 have HL : Hid ((l.drop n).length ≤ 9000) := Hi (by rw [List.length_drop]; omega)
 have HNO := Hi hno
 have HN := Hi hn
 clear hA hl hno hn
 go_enter Tryz.func31, Tryz.ntmps31
 go_upto_region 1 with (fail)
 generalize w.alloc (.cells #[.string ⟨#[]⟩, .int .i64 0, .string ⟨#[]⟩, .slice none 0 0, .int .i64 0, .int .i64 0, .bool false, .int .u8 0, .slice none 0 0] 26) = w1 at *
 go_wp2_with fail
 refine (TG.out _ HB.out).mono ?_
 rintro e w2 ⟨rfl, rfl⟩
 go_wp2_with fail
 refine (TK.out _ HB.out).mono ?_
 rintro e w3 ⟨v, ts, x, rfl, hO, hT, hb3⟩
 have HR3 := Hi ((hb3.block w.heap.size (by have := HSZ.out; omega)).trans HR.out)
 have HB3 := Hi (HB.out.trans (hb3.mono HB.out.size))
 have HO := Hi hO
 have HT := Hi hT
 have hs3 : w.heap.size + 1 ≤ w3.heap.size := by have := hb3.size; have := HSZ.out; omega
 have hcase : (x = -1 ∧ Fin ts) ∨ (∃ n : Nat, x = n) := by
  rcases hT with ⟨us, h1, h2, h3⟩ | ⟨us, k, _, _, _, _, h3⟩
  · exact .inl ⟨h3, Fin.toks HL.out (.inl ⟨us, h1, h2, rfl⟩)⟩
  · exact .inr ⟨k, h3⟩
 clear hb3 hO hT TK HB HR TG hse hsl hnl HSZ
 obtain ⟨z0, z1, z2, z3, z4, z5, z6, z7, z8⟩ := ZS HR3.out
 have ur := fun j => Joins.unfrozen_of_block HR3.out j
 rcases hcase with ⟨rfl, hf⟩ | ⟨k, rfl⟩
 rotate_left
 · have d0 : decide ((0 : Int) ≤ (k : Int)) = true := by simp
   go_wp2_with fail
   refine rparse_fin (q := false) HR3.out ?_ ?_ ?_
   · rfl
   · rfl
   · exact ⟨cmd0 t, false, _, .bad HNO.out (by rw [HN.out]; exact HT.out) (.inl (by omega)), rfl, ⟨CmdV.zero _ t, NewV.zero _ t⟩, YN HB3.out⟩
 · obtain ⟨l', e', rfl, he0, _, hok, hl'⟩ := hf
   obtain ⟨A', k', rfl⟩ := YV HO.out
   have hS := SlAt.of_own encT_len HO.out
   have hk' : l'.length + 1 ≤ k' := by
    rcases HO.out.2 with ⟨h1, h0⟩ | ⟨g, cap, cur, h1, _, _, hn, _⟩
    · simp at h0
    · injection h1 with _ _ h3
      simp at hn
      omega
   have htk : (l' ++ [e']).take l'.length = l' := by simp
   have hS' := slAt_take (hi := l'.length) hS
   rw [htk] at hS'
   have BA := Hi (body_any A' k' t l' (by omega) (by omega) (fun x hx => ⟨(hok x hx).2.1, (hok x hx).2.2.1⟩) w3 hS')
   have HQ : Hid (bodyO t (l' ++ [e']) = YM t l') := Hi (body_is (fun x hx => ⟨(hok x hx).1, (hok x hx).2.1⟩) (fun x hx h => ((hok x hx).2.2.2 h).1) (fun x hx => by have := (hok x hx).2.2.1; omega) he0 t)
   obtain ⟨m, hm⟩ : ∃ m, (l' ++ [e']).length = m := ⟨_, rfl⟩
   have hm1 : l'.length + 1 = m := by rw [← hm]; simp
   have hw1 : IntKind.i64.wrap ((m : Int) - 1) = (l'.length : Int) := by rw [show l'.length = m - 1 by omega]; exact wrap_sub m 1 (by omega) (by omega)
   have s0 := fun x lo hi mx W => sliceAtRT x lo hi mx W
   have s1 := fun W => sliceRT_h A' m k' l'.length (by omega) W
   rw [hm]
   clear hS hS' htk hm hm1 hok hl' hk' HO he0
   go_wp2_with fail
   refine BA.out.mono ?_
   rintro e w4 ⟨v, q, rfl, ⟨a0, i1, a2, A3, n3, k3, i4, i5, q6, i7, A8, n8, k8, rfl⟩, hy, hno, hb4⟩
   have HR4 := Hi ((hb4.block w.heap.size (by omega)).trans HR3.out)
   have HB4 := Hi (HB3.out.trans (hb4.mono HB3.out.size))
   have hs4 := hb4.size
   have HX5 := Hi (YD w4 (.cells #[.string a0, .int .i64 i1, .string a2, .slice A3 n3 k3, .int .i64 i4, .int .i64 i5, .bool q6, .int .u8 i7, .slice A8 n8 k8] 26))
   have h45 := YB w4 (.cells #[.string a0, .int .i64 i1, .string a2, .slice A3 n3 k3, .int .i64 i4, .int .i64 i5, .bool q6, .int .u8 i7, .slice A8 n8 k8] 26)
   have HR5 := Hi ((h45.block w.heap.size (by omega)).trans HR4.out)
   have HB5 := Hi (HB4.out.trans (h45.mono HB4.out.size))
   have HBB := Hi h45
   have HY := Hi hy
   have HNQ := Hi hno
   clear BA h45 hy hno HR4 HB4
   clear z0 z1 z2 z3 z4 z5 z6 z7 z8 ur
   go_upto_region 8 with (fail)
   generalize w4.alloc (.cells #[.string a0, .int .i64 i1, .string a2, .slice A3 n3 k3, .int .i64 i4, .int .i64 i5, .bool q6, .int .u8 i7, .slice A8 n8 k8] 26) = w5 at *
   obtain ⟨z0, z1, z2, z3, z4, z5, z6, z7, z8⟩ := ZS HR5.out
   obtain ⟨x0, x1, x2, x3, x4, x5, x6, x7, x8⟩ := ZS HX5.out
   have ur := fun j => Joins.unfrozen_of_block HR5.out j
   cases q with
   | false =>
     have HNN := HNQ.out rfl
     clear HNQ HY
     go_wp2_with fail
     refine rparse_fin (q := false) HR5.out ?_ ?_ ?_
     · rfl
     · rfl
     · exact ⟨cmd0 t, false, _, .bad HNO.out (by rw [HN.out]; exact HT.out) (.inr (by rw [HQ.out]; exact HNN.out)), rfl, ⟨CmdV.zero _ t, NewV.zero _ t⟩, YN HB5.out⟩
   | true =>
     have HYY := Hi (HY.out rfl)
     clear HNQ HY
     go_wp2_with fail
     refine rparse_fin (q := true) HR5.out ?_ ?_ ?_
     · rfl
     · rfl
     · obtain ⟨cm, sv, dv, h1, h2, h3, h5, h6⟩ := HYY.out
       refine ⟨cm, true, _, .good HNO.out (by rw [HN.out]; exact HT.out) (by rw [HQ.out]; exact h2.out), rfl, ⟨?_, cm, sv, dv, h1, h5.mono (by omega), h6.mono (by omega)⟩, YN HB5.out⟩
       have h4 := h3.out.below HBB.out
       rw [h1] at h4 ⊢
       exact h4.past h5 h6 (by omega) (stC_grown _ _ _ _ _ _ _ _ _ _ _)
theorem rcommand_any (B c : Nat) (A : Option Addr) (l : List UInt8) (hl : l.length ≤ 9000) (w : World) (hA : ByAt B w A c l) :
 Calls Tryz.prog 31 #[.slice A l.length c] w (CPost l w) := by
 cases ht : tagO l with
 | none => exact rparse_none B c A l hl w hA ht
 | some t => exact rparse_some B c A l t hl w hA ht
theorem appR_bd {c c' : Cmd} {l : List Tok} (h : appR c l = some c') : c'.set = c.set ∧ ∃ d ∈ l, c'.data = d.text := by
 rcases List.eq_nil_or_concat l with rfl | ⟨m, d, rfl⟩
 · simp [appR] at h
 rw [List.concat_eq_append] at *
 by_cases h6 : d.kind = 6
 rotate_left
 · rw [appR_bad c m d h6] at h; cases h
 rcases List.eq_nil_or_concat m with rfl | ⟨m, s, rfl⟩
 · rw [List.nil_append, appR_one c d h6] at h
   cases h
   exact ⟨rfl, d, by simp, rfl⟩
 rw [List.concat_eq_append] at *
 rw [appR_more c m s d h6] at h
 split at h
 · rw [Option.map_eq_some_iff] at h
   obtain ⟨g, _, rfl⟩ := h
   exact ⟨rfl, d, by simp, rfl⟩
 · cases h
theorem fetR_bd {c c' : Cmd} {l : List Tok} (h : fetR c l = some c') : c'.set = c.set ∧ c'.data = c.data := by
 rw [fetR_is, Option.map_eq_some_iff] at h
 obtain ⟨g, _, rfl⟩ := h
 exact ⟨rfl, rfl⟩
theorem stoR_bd {c c' : Cmd} {l : List Tok} (h : stoR c l = some c') : c'.set = c.set ∧ c'.data = c.data := by
 unfold stoR at h
 split at h
 · split at h
   · simp only [Option.bind_eq_some_iff, Option.map_eq_some_iff] at h
     obtain ⟨mo, _, g, _, rfl⟩ := h
     exact ⟨rfl, rfl⟩
   · cases h
 · cases h
theorem parseP_bd (x : List UInt8) (hx : x.length ≤ 9000) : (YP x).1.length ≤ 9001 := by
 have h := split7_len 44 x
 unfold YP
 split
 · simp; omega
 · simp
theorem bodyR_bd {tag : List UInt8} {l : List Tok} {c : Cmd} (h : YM tag l = some c) (hl : ∀ t ∈ l, t.text.length ≤ 9000) : c.set.length ≤ 9001 ∧ c.data.length ≤ 9000 := by
 rcases l with _ | ⟨t, r⟩
 · simp [YM] at h
 by_cases h4 : t.kind = 4
 rotate_left
 · rw [bodyR_no4 tag h4] at h; cases h
 by_cases h0 : YC t.text = 0
 · rw [bodyR_zero tag h0] at h; cases h
 by_cases hle : YC t.text ≤ 4
 · rw [bodyR_low tag h4 h0 hle] at h
   split at h
   · cases h; simp [cmd0]
   · cases h
 have hk : 4 < YC t.text := by omega
 rcases r with _ | ⟨s, _ | ⟨m, q⟩⟩
 · rw [bodyR_short tag hk (by simp)] at h; cases h
 · rw [bodyR_short tag hk (by simp)] at h; cases h
 by_cases hs : s.kind = 1
 rotate_left
 · rw [bodyR_nos tag hk hs] at h; cases h
 by_cases h6 : YC t.text ≤ 6
 · rw [bodyR_mbox tag h4 hk h6 hs] at h
   split at h
   · cases h
   split at h
   · split at h
     · cases h; simp [cmd0]
     · cases h
   rcases q with _ | ⟨z, d⟩
   · cases h
   · replace h : (if z.kind = 1 then appR { cmd0 tag with kind := YC t.text, mbox := m.text } d else none) = some c := h
     split at h
     · obtain ⟨e1, x, hx, e2⟩ := appR_bd h
       rw [e1, e2]
       exact ⟨by simp [cmd0], hl x (by simp [hx])⟩
     · cases h
 · rw [bodyR_set tag h4 (by omega) hs] at h
   have hp := parseP_bd m.text (hl m (by simp))
   split at h
   · cases h
   rcases q with _ | ⟨z, d⟩
   · cases h
   · replace h : (if z.kind = 1 ∧ d ≠ [] then (if YC t.text = 7 then fetR { cmd0 tag with kind := YC t.text, set := (YP m.text).1 } d else stoR { cmd0 tag with kind := YC t.text, set := (YP m.text).1 } d) else none) = some c := h
     split at h
     · split at h
       · obtain ⟨e1, e2⟩ := fetR_bd h
         rw [e1, e2]
         exact ⟨hp, by simp [cmd0]⟩
       · obtain ⟨e1, e2⟩ := stoR_bd h
         rw [e1, e2]
         exact ⟨hp, by simp [cmd0]⟩
     · cases h
theorem IsCmd.bd {l : List UInt8} {c : Cmd} {b : Bool} (h : IsCmd l c b) (_ : l.length ≤ 9000) : c.set.length ≤ 9001 ∧ c.data.length ≤ 9000 := by
 cases h with
 | noTag _ => simp [cmd0]
 | bad _ _ _ => simp [cmd0]
 | good e i o =>
   have hf := Fin.toks (by rw [List.length_drop]; omega) i
   obtain ⟨l', e', rfl, he0, _, hok, hl'⟩ := hf
   rw [body_is (fun x hx => ⟨(hok x hx).1, (hok x hx).2.1⟩) (fun x hx h => ((hok x hx).2.2.2 h).1) (fun x hx => by have := (hok x hx).2.2.1; omega) he0] at o
   exact bodyR_bd o (fun x hx => (hok x hx).2.2.1)
end Go.Proofs.YtpgfnlhfciacoaaGreatDoor
