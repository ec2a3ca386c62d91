import Derived.Test.YtpgfnlhfciacoaaGreatDoorPHi
set_option maxRecDepth 100000
set_option maxHeartbeats 1000000
open Go.Lib renaming hid → Hi
namespace Go.Proofs.YtpgfnlhfciacoaaGreatDoor
open Go.RowKit
theorem body_nil (A : Option Addr) (k : Nat) (tag : List UInt8) (w : World) :
 Calls Tryz.prog 64 #[.string ⟨tag.toArray⟩, .slice A 0 k] w (ZZ (YM tag []) w) := by
 obtain ⟨O, hO⟩ : ∃ O, YM tag [] = O := ⟨_, rfl⟩
 rw [hO]
 have HO : Hid (O = none) := Hi hO.symm
 clear hO
 have HW := Hi (BW.start w tag)
 go_enter Tryz.func64, Tryz.ntmps64
 go_upto_region 2 with (fail)
 generalize ((w.alloc (.cells #[.string ⟨#[]⟩, .int .i64 0, .string ⟨#[]⟩, .slice none 0 0, .int .i64 0, .int .i64 0, .bool false, .int .u8 0, .slice none 0 0] 26)).alloc (.cells #[.string ⟨tag.toArray⟩, .int .i64 0, .string ⟨#[]⟩, .slice none 0 0, .int .i64 0, .int .i64 0, .bool false, .int .u8 0, .slice none 0 0] 26)) = W2 at *
 have xx := HW.out.all
 go_wp2_with fail
 refine ZH (q := false) HW.out.hr ?_ ?_ ?_
 · rfl
 · rfl
 · exact .no HO.out (YN HW.out.hb)
theorem body_no4 {t : Tok} {r : List Tok} (A : Option Addr) (k : Nat) (tag : List UInt8) (hl : (t :: r).length ≤ 10000) (htx : ∀ x ∈ (t :: r), x.kind ≤ 6 ∧ x.text.length ≤ 9000) (w : World) (hS : SlAt encT 3 w A (t :: r)) (h4 : t.kind ≠ 4) :
 Calls Tryz.prog 64 #[.string ⟨tag.toArray⟩, .slice A (t :: r).length k] w (ZZ (YM tag (t :: r)) w) := by
 obtain ⟨O, hO⟩ : ∃ O, YM tag (t :: r) = O := ⟨_, rfl⟩
 obtain ⟨n, hn⟩ : ∃ n, (t :: r).length = n := ⟨_, rfl⟩
 rw [hO, hn]
 have HS := Hi hS
 have HTX := Hi htx
 have hn0 : 0 < n := by rw [← hn]; simp
 have g0 : ((n : Int) == 0) = false := by simp; omega
 have g0' : ¬ (n : Int) = 0 := by omega
 obtain ⟨b, off, rfl, hb0, _, _, _⟩ := tk_at HS.out (j := 0) (by simp)
 have HK := Hi (tokAt HS.out)
 have HO : Hid (O = none) := Hi (by rw [← hO]; exact bodyR_no4 tag h4)
 have f1 : ((t.kind : Int) != 4) = true := by simp; omega
 clear hO hS htx hl hn
 have HW := Hi (BW.start w tag)
 go_enter Tryz.func64, Tryz.ntmps64
 go_upto_region 2 with (fail)
 generalize ((w.alloc (.cells #[.string ⟨#[]⟩, .int .i64 0, .string ⟨#[]⟩, .slice none 0 0, .int .i64 0, .int .i64 0, .bool false, .int .u8 0, .slice none 0 0] 26)).alloc (.cells #[.string ⟨tag.toArray⟩, .int .i64 0, .string ⟨#[]⟩, .slice none 0 0, .int .i64 0, .int .i64 0, .bool false, .int .u8 0, .slice none 0 0] 26)) = W2 at *
 have xx := HW.out.all
 have k0 : W2.cell? ⟨b, off, none⟩ = some (.int .i64 (t.kind : Int)) := (HK.out W2 HW.out.hb 0 (by simp)).1
 clear HK HS HTX h4
 generalize t.kind = tk at *
 go_wp2_with fail
 refine ZH (q := false) HW.out.hr ?_ ?_ ?_
 · rfl
 · rfl
 · exact .no HO.out (YN HW.out.hb)
theorem body_zero {t : Tok} {r : List Tok} (A : Option Addr) (k : Nat) (tag : List UInt8) (hl : (t :: r).length ≤ 10000) (htx : ∀ x ∈ (t :: r), x.kind ≤ 6 ∧ x.text.length ≤ 9000) (w : World) (hS : SlAt encT 3 w A (t :: r)) (h4 : t.kind = 4) (h0 : YC t.text = 0) :
 Calls Tryz.prog 64 #[.string ⟨tag.toArray⟩, .slice A (t :: r).length k] w (ZZ (YM tag (t :: r)) w) := by
 obtain ⟨O, hO⟩ : ∃ O, YM tag (t :: r) = O := ⟨_, rfl⟩
 obtain ⟨n, hn⟩ : ∃ n, (t :: r).length = n := ⟨_, rfl⟩
 rw [hO, hn]
 have HS := Hi hS
 have HTX := Hi htx
 have hn0 : 0 < n := by rw [← hn]; simp
 have g0 : ((n : Int) == 0) = false := by simp; omega
 have g0' : ¬ (n : Int) = 0 := by omega
 obtain ⟨b, off, rfl, hb0, _, _, _⟩ := tk_at HS.out (j := 0) (by simp)
 have HK := Hi (tokAt HS.out)
 have HO : Hid (O = none) := Hi (by rw [← hO]; exact bodyR_zero tag h0)
 have e0 : (((YC t.text : Nat) : Int) == 0) = true := by rw [h0]; rfl
 have e1 : decide (((0 : Int) < (YC t.text : Nat))) = false := by rw [h0]; rfl
 have e1' : decide (0 < YC t.text) = false := by rw [h0]; rfl
 clear h0
 clear hO hS htx hl hn
 have f1 : ((t.kind : Int) != 4) = false := by rw [h4]; rfl
 have hlt := (HTX.out t (by simp)).2
 have KD := Hi (fun W => YZ ⟨t.text.toArray⟩ (by show t.text.toArray.size ≤ _; simp; omega) W)
 have KD : Hid (∀ W, Calls Tryz.prog 96 #[.string ⟨t.text.toArray⟩] W fun e w' => e = .returned (.int .i64 (YC t.text : Nat)) ∧ Below W.heap.size W w') := KD
 have HW := Hi (BW.start w tag)
 go_enter Tryz.func64, Tryz.ntmps64
 go_upto_region 2 with (fail)
 generalize ((w.alloc (.cells #[.string ⟨#[]⟩, .int .i64 0, .string ⟨#[]⟩, .slice none 0 0, .int .i64 0, .int .i64 0, .bool false, .int .u8 0, .slice none 0 0] 26)).alloc (.cells #[.string ⟨tag.toArray⟩, .int .i64 0, .string ⟨#[]⟩, .slice none 0 0, .int .i64 0, .int .i64 0, .bool false, .int .u8 0, .slice none 0 0] 26)) = W2 at *
 have xx := HW.out.all
 have k0 : W2.cell? ⟨b, off, none⟩ = some (.int .i64 (t.kind : Int)) := (HK.out W2 HW.out.hb 0 (by simp)).1
 have k1 : W2.cell? ⟨b, off + 1, none⟩ = some (.string ⟨t.text.toArray⟩) := (HK.out W2 HW.out.hb 0 (by simp)).2.1
 generalize YC t.text = kd at *
 generalize t.kind = tk at *
 go_wp2_with fail
 refine (KD.out _).mono ?_
 rintro e w3 ⟨rfl, hb3⟩
 have HW3 := Hi (HW.out.below hb3)
 clear xx KD HW hb3 k0 k1
 have xx := HW3.out.all
 have HW4 := Hi (HW3.out.set1 (.int .i64 (kd : Int)))
 go_upto_region 5 with (fail)
 clear xx HW3
 generalize w3.setCell ⟨w.heap.size + 1, 1, none⟩ (.int .i64 (kd : Int)) = w4 at *
 have xx := HW4.out.all
 clear HK HS HTX
 go_wp2_with fail
 refine ZH (q := false) HW4.out.hr ?_ ?_ ?_
 · rfl
 · rfl
 · exact .no HO.out (YN HW4.out.hb)
theorem body_one {t : Tok} {r : List Tok} (A : Option Addr) (k : Nat) (tag : List UInt8) (hl : (t :: r).length ≤ 10000) (htx : ∀ x ∈ (t :: r), x.kind ≤ 6 ∧ x.text.length ≤ 9000) (w : World) (hS : SlAt encT 3 w A (t :: r)) (h4 : t.kind = 4) (h0 : YC t.text ≠ 0) (h : YC t.text ≤ 4) (hr : r = []) :
 Calls Tryz.prog 64 #[.string ⟨tag.toArray⟩, .slice A (t :: r).length k] w (ZZ (YM tag (t :: r)) w) := by
 obtain ⟨O, hO⟩ : ∃ O, YM tag (t :: r) = O := ⟨_, rfl⟩
 obtain ⟨n, hn⟩ : ∃ n, (t :: r).length = n := ⟨_, rfl⟩
 rw [hO, hn]
 have HS := Hi hS
 have HTX := Hi htx
 have hn0 : 0 < n := by rw [← hn]; simp
 have g0 : ((n : Int) == 0) = false := by simp; omega
 have g0' : ¬ (n : Int) = 0 := by omega
 obtain ⟨b, off, rfl, hb0, _, _, _⟩ := tk_at HS.out (j := 0) (by simp)
 have HK := Hi (tokAt HS.out)
 have HO : Hid (O = some { cmd0 tag with kind := YC t.text }) := Hi (by rw [← hO]; rw [bodyR_low tag h4 h0 h, if_pos hr])
 have e0 : (((YC t.text : Nat) : Int) == 0) = false := by simp; omega
 have e1 : decide (((0 : Int) < (YC t.text : Nat))) = true := by simp; omega
 have e1' : decide (0 < YC t.text) = true := by simp; omega
 have e4 : decide ((((YC t.text : Nat) : Int) ≤ 4)) = true := by simp; omega
 have e4' : decide (YC t.text ≤ 4) = true := by simp; omega
 have gn : ((n : Int) == 1) = true := by rw [← hn, hr]; rfl
 clear h0 h
 clear hO hS htx hl hn
 have f1 : ((t.kind : Int) != 4) = false := by rw [h4]; rfl
 have hlt := (HTX.out t (by simp)).2
 have KD := Hi (fun W => YZ ⟨t.text.toArray⟩ (by show t.text.toArray.size ≤ _; simp; omega) W)
 have KD : Hid (∀ W, Calls Tryz.prog 96 #[.string ⟨t.text.toArray⟩] W fun e w' => e = .returned (.int .i64 (YC t.text : Nat)) ∧ Below W.heap.size W w') := KD
 have HW := Hi (BW.start w tag)
 go_enter Tryz.func64, Tryz.ntmps64
 go_upto_region 2 with (fail)
 generalize ((w.alloc (.cells #[.string ⟨#[]⟩, .int .i64 0, .string ⟨#[]⟩, .slice none 0 0, .int .i64 0, .int .i64 0, .bool false, .int .u8 0, .slice none 0 0] 26)).alloc (.cells #[.string ⟨tag.toArray⟩, .int .i64 0, .string ⟨#[]⟩, .slice none 0 0, .int .i64 0, .int .i64 0, .bool false, .int .u8 0, .slice none 0 0] 26)) = W2 at *
 have xx := HW.out.all
 have k0 : W2.cell? ⟨b, off, none⟩ = some (.int .i64 (t.kind : Int)) := (HK.out W2 HW.out.hb 0 (by simp)).1
 have k1 : W2.cell? ⟨b, off + 1, none⟩ = some (.string ⟨t.text.toArray⟩) := (HK.out W2 HW.out.hb 0 (by simp)).2.1
 generalize YC t.text = kd at *
 generalize t.kind = tk at *
 go_wp2_with fail
 refine (KD.out _).mono ?_
 rintro e w3 ⟨rfl, hb3⟩
 have HW3 := Hi (HW.out.below hb3)
 clear xx KD HW hb3 k0 k1
 have xx := HW3.out.all
 have HW4 := Hi (HW3.out.set1 (.int .i64 (kd : Int)))
 go_upto_region 5 with (fail)
 clear xx HW3
 generalize w3.setCell ⟨w.heap.size + 1, 1, none⟩ (.int .i64 (kd : Int)) = w4 at *
 have xx := HW4.out.all
 clear HK HS HTX
 go_wp2_with fail
 refine ZH (q := true) HW4.out.hr ?_ ?_ ?_
 · rfl
 · rfl
 · exact .plain (c := { cmd0 tag with kind := kd }) HO.out rfl rfl (YN HW4.out.hb)
theorem body_many {t : Tok} {r : List Tok} (A : Option Addr) (k : Nat) (tag : List UInt8) (hl : (t :: r).length ≤ 10000) (htx : ∀ x ∈ (t :: r), x.kind ≤ 6 ∧ x.text.length ≤ 9000) (w : World) (hS : SlAt encT 3 w A (t :: r)) (h4 : t.kind = 4) (h0 : YC t.text ≠ 0) (h : YC t.text ≤ 4) (hr : r ≠ []) :
 Calls Tryz.prog 64 #[.string ⟨tag.toArray⟩, .slice A (t :: r).length k] w (ZZ (YM tag (t :: r)) w) := by
 obtain ⟨O, hO⟩ : ∃ O, YM tag (t :: r) = O := ⟨_, rfl⟩
 obtain ⟨n, hn⟩ : ∃ n, (t :: r).length = n := ⟨_, rfl⟩
 rw [hO, hn]
 have HS := Hi hS
 have HTX := Hi htx
 have hn0 : 0 < n := by rw [← hn]; simp
 have g0 : ((n : Int) == 0) = false := by simp; omega
 have g0' : ¬ (n : Int) = 0 := by omega
 obtain ⟨b, off, rfl, hb0, _, _, _⟩ := tk_at HS.out (j := 0) (by simp)
 have HK := Hi (tokAt HS.out)
 have HO : Hid (O = none) := Hi (by rw [← hO]; rw [bodyR_low tag h4 h0 h, if_neg hr])
 have e0 : (((YC t.text : Nat) : Int) == 0) = false := by simp; omega
 have e1 : decide (((0 : Int) < (YC t.text : Nat))) = true := by simp; omega
 have e1' : decide (0 < YC t.text) = true := by simp; omega
 have e4 : decide ((((YC t.text : Nat) : Int) ≤ 4)) = true := by simp; omega
 have e4' : decide (YC t.text ≤ 4) = true := by simp; omega
 have gn : ((n : Int) == 1) = false := by
  have : r.length ≠ 0 := fun e => hr (List.length_eq_zero_iff.1 e)
  rw [← hn]
  simp
  omega
 clear h0 h
 clear hO hS htx hl hn
 have f1 : ((t.kind : Int) != 4) = false := by rw [h4]; rfl
 have hlt := (HTX.out t (by simp)).2
 have KD := Hi (fun W => YZ ⟨t.text.toArray⟩ (by show t.text.toArray.size ≤ _; simp; omega) W)
 have KD : Hid (∀ W, Calls Tryz.prog 96 #[.string ⟨t.text.toArray⟩] W fun e w' => e = .returned (.int .i64 (YC t.text : Nat)) ∧ Below W.heap.size W w') := KD
 have HW := Hi (BW.start w tag)
 go_enter Tryz.func64, Tryz.ntmps64
 go_upto_region 2 with (fail)
 generalize ((w.alloc (.cells #[.string ⟨#[]⟩, .int .i64 0, .string ⟨#[]⟩, .slice none 0 0, .int .i64 0, .int .i64 0, .bool false, .int .u8 0, .slice none 0 0] 26)).alloc (.cells #[.string ⟨tag.toArray⟩, .int .i64 0, .string ⟨#[]⟩, .slice none 0 0, .int .i64 0, .int .i64 0, .bool false, .int .u8 0, .slice none 0 0] 26)) = W2 at *
 have xx := HW.out.all
 have k0 : W2.cell? ⟨b, off, none⟩ = some (.int .i64 (t.kind : Int)) := (HK.out W2 HW.out.hb 0 (by simp)).1
 have k1 : W2.cell? ⟨b, off + 1, none⟩ = some (.string ⟨t.text.toArray⟩) := (HK.out W2 HW.out.hb 0 (by simp)).2.1
 generalize YC t.text = kd at *
 generalize t.kind = tk at *
 go_wp2_with fail
 refine (KD.out _).mono ?_
 rintro e w3 ⟨rfl, hb3⟩
 have HW3 := Hi (HW.out.below hb3)
 clear xx KD HW hb3 k0 k1
 have xx := HW3.out.all
 have HW4 := Hi (HW3.out.set1 (.int .i64 (kd : Int)))
 go_upto_region 5 with (fail)
 clear xx HW3
 generalize w3.setCell ⟨w.heap.size + 1, 1, none⟩ (.int .i64 (kd : Int)) = w4 at *
 have xx := HW4.out.all
 clear HK HS HTX
 go_wp2_with fail
 refine ZH (q := false) HW4.out.hr ?_ ?_ ?_
 · rfl
 · rfl
 · exact .no HO.out (YN HW4.out.hb)
theorem body_short {t : Tok} {r : List Tok} (A : Option Addr) (k : Nat) (tag : List UInt8) (hl : (t :: r).length ≤ 10000) (htx : ∀ x ∈ (t :: r), x.kind ≤ 6 ∧ x.text.length ≤ 9000) (w : World) (hS : SlAt encT 3 w A (t :: r)) (h4 : t.kind = 4) (h : 4 < YC t.text) (hn3 : (t :: r).length < 3) :
 Calls Tryz.prog 64 #[.string ⟨tag.toArray⟩, .slice A (t :: r).length k] w (ZZ (YM tag (t :: r)) w) := by
 obtain ⟨O, hO⟩ : ∃ O, YM tag (t :: r) = O := ⟨_, rfl⟩
 obtain ⟨n, hn⟩ : ∃ n, (t :: r).length = n := ⟨_, rfl⟩
 rw [hO, hn]
 have HS := Hi hS
 have HTX := Hi htx
 have hn0 : 0 < n := by rw [← hn]; simp
 have g0 : ((n : Int) == 0) = false := by simp; omega
 have g0' : ¬ (n : Int) = 0 := by omega
 obtain ⟨b, off, rfl, hb0, _, _, _⟩ := tk_at HS.out (j := 0) (by simp)
 have HK := Hi (tokAt HS.out)
 have HO : Hid (O = none) := Hi (by rw [← hO]; exact bodyR_short tag h hn3)
 have d3 : decide ((n : Int) < 3) = true := by rw [hn] at hn3; simp; omega
 have d3' : decide (n < 3) = true := by rw [hn] at hn3; simp; omega
 have e0 : (((YC t.text : Nat) : Int) == 0) = false := by simp; omega
 have e4 : decide ((((YC t.text : Nat) : Int) ≤ 4)) = false := by simp; omega
 have e4' : decide (YC t.text ≤ 4) = false := by simp; omega
 clear h hn3
 have KK := Hi (fun W (hW : Below w.heap.size w W) => ZN (some ⟨b, off, none⟩) k (t :: r) hl (fun x' hx' => (HTX.out x' hx').1) W (HS.out.below hW))
 obtain ⟨KS, hKS⟩ : ∃ KS : ByteArray, (⟨(YK (t :: r)).toArray⟩ : ByteArray) = KS := ⟨_, rfl⟩
 rw [hKS, hn] at KK
 have ks0 : KS.size = n := by rw [← hKS, ← hn]; show (YK (t :: r)).toArray.size = _; simp [YK]
 clear hO hS htx hl hn hKS
 have f1 : ((t.kind : Int) != 4) = false := by rw [h4]; rfl
 have hlt := (HTX.out t (by simp)).2
 have KD := Hi (fun W => YZ ⟨t.text.toArray⟩ (by show t.text.toArray.size ≤ _; simp; omega) W)
 have KD : Hid (∀ W, Calls Tryz.prog 96 #[.string ⟨t.text.toArray⟩] W fun e w' => e = .returned (.int .i64 (YC t.text : Nat)) ∧ Below W.heap.size W w') := KD
 have HW := Hi (BW.start w tag)
 go_enter Tryz.func64, Tryz.ntmps64
 go_upto_region 2 with (fail)
 generalize ((w.alloc (.cells #[.string ⟨#[]⟩, .int .i64 0, .string ⟨#[]⟩, .slice none 0 0, .int .i64 0, .int .i64 0, .bool false, .int .u8 0, .slice none 0 0] 26)).alloc (.cells #[.string ⟨tag.toArray⟩, .int .i64 0, .string ⟨#[]⟩, .slice none 0 0, .int .i64 0, .int .i64 0, .bool false, .int .u8 0, .slice none 0 0] 26)) = W2 at *
 have xx := HW.out.all
 have k0 : W2.cell? ⟨b, off, none⟩ = some (.int .i64 (t.kind : Int)) := (HK.out W2 HW.out.hb 0 (by simp)).1
 have k1 : W2.cell? ⟨b, off + 1, none⟩ = some (.string ⟨t.text.toArray⟩) := (HK.out W2 HW.out.hb 0 (by simp)).2.1
 generalize YC t.text = kd at *
 generalize t.kind = tk at *
 go_wp2_with fail
 refine (KD.out _).mono ?_
 rintro e w3 ⟨rfl, hb3⟩
 have HW3 := Hi (HW.out.below hb3)
 clear xx KD HW hb3 k0 k1
 have xx := HW3.out.all
 have HW4 := Hi (HW3.out.set1 (.int .i64 (kd : Int)))
 go_upto_region 5 with (fail)
 clear xx HW3
 generalize w3.setCell ⟨w.heap.size + 1, 1, none⟩ (.int .i64 (kd : Int)) = w4 at *
 have xx := HW4.out.all
 go_wp2_with fail
 refine (KK.out _ HW4.out.hb).mono ?_
 rintro e w5 ⟨rfl, hb5⟩
 have HW5 := Hi (HW4.out.below hb5)
 clear xx HW4 hb5 KK HTX
 have xx := HW5.out.all
 clear HK HS ks0
 go_wp2_with fail
 refine ZH (q := false) HW5.out.hr ?_ ?_ ?_
 · rfl
 · rfl
 · exact .no HO.out (YN HW5.out.hb)
theorem body_nos {t s m : Tok} {q : List Tok} (A : Option Addr) (k : Nat) (tag : List UInt8) (hl : (t :: s :: m :: q).length ≤ 10000) (htx : ∀ x ∈ (t :: s :: m :: q), x.kind ≤ 6 ∧ x.text.length ≤ 9000) (w : World) (hS : SlAt encT 3 w A (t :: s :: m :: q)) (h4 : t.kind = 4) (h : 4 < YC t.text) (hs : s.kind ≠ 1) :
 Calls Tryz.prog 64 #[.string ⟨tag.toArray⟩, .slice A (t :: s :: m :: q).length k] w (ZZ (YM tag (t :: s :: m :: q)) w) := by
 obtain ⟨O, hO⟩ : ∃ O, YM tag (t :: s :: m :: q) = O := ⟨_, rfl⟩
 obtain ⟨n, hn⟩ : ∃ n, (t :: s :: m :: q).length = n := ⟨_, rfl⟩
 rw [hO, hn]
 have HS := Hi hS
 have HTX := Hi htx
 have hn0 : 0 < n := by rw [← hn]; simp
 have g0 : ((n : Int) == 0) = false := by simp; omega
 have g0' : ¬ (n : Int) = 0 := by omega
 have hn3 : 3 ≤ n := by rw [← hn]; simp
 have d3 : decide ((n : Int) < 3) = false := by simp; omega
 have d3' : decide (n < 3) = false := by simp; omega
 obtain ⟨b, off, rfl, hb0, _, _, _⟩ := tk_at HS.out (j := 0) (by simp)
 have HK := Hi (tokAt HS.out)
 have HO : Hid (O = none) := Hi (by rw [← hO]; exact bodyR_nos tag h hs)
 have hs6 := (htx s (by simp)).1
 have f2 : (((letN s.kind).toNat : Int) != 115) = true := by
  have : ¬ letN s.kind = 115 := fun e => hs ((letN_s hs6).1 e)
  have : ¬ (letN s.kind).toNat = 115 := fun e => this (UInt8.toNat_inj.1 e)
  simp; omega
 have e0 : (((YC t.text : Nat) : Int) == 0) = false := by simp; omega
 have e4 : decide ((((YC t.text : Nat) : Int) ≤ 4)) = false := by simp; omega
 have e4' : decide (YC t.text ≤ 4) = false := by simp; omega
 clear h hs hs6
 have KK := Hi (fun W (hW : Below w.heap.size w W) => ZN (some ⟨b, off, none⟩) k (t :: s :: m :: q) hl (fun x' hx' => (HTX.out x' hx').1) W (HS.out.below hW))
 obtain ⟨KS, hKS⟩ : ∃ KS : ByteArray, (⟨(YK (t :: s :: m :: q)).toArray⟩ : ByteArray) = KS := ⟨_, rfl⟩
 rw [hKS, hn] at KK
 have ks0 : KS.size = n := by rw [← hKS, ← hn]; show (YK (t :: s :: m :: q)).toArray.size = _; simp [YK]
 have ks1 : 1 < KS.size := by rw [ks0, ← hn]; simp
 have kb1 : KS[1]'ks1 = letN s.kind := by subst hKS; simp [ByteArray.getElem_eq_getElem_data, YK]
 clear hO hS htx hl hn hKS
 have f1 : ((t.kind : Int) != 4) = false := by rw [h4]; rfl
 have hlt := (HTX.out t (by simp)).2
 have KD := Hi (fun W => YZ ⟨t.text.toArray⟩ (by show t.text.toArray.size ≤ _; simp; omega) W)
 have KD : Hid (∀ W, Calls Tryz.prog 96 #[.string ⟨t.text.toArray⟩] W fun e w' => e = .returned (.int .i64 (YC t.text : Nat)) ∧ Below W.heap.size W w') := KD
 have HW := Hi (BW.start w tag)
 go_enter Tryz.func64, Tryz.ntmps64
 go_upto_region 2 with (fail)
 generalize ((w.alloc (.cells #[.string ⟨#[]⟩, .int .i64 0, .string ⟨#[]⟩, .slice none 0 0, .int .i64 0, .int .i64 0, .bool false, .int .u8 0, .slice none 0 0] 26)).alloc (.cells #[.string ⟨tag.toArray⟩, .int .i64 0, .string ⟨#[]⟩, .slice none 0 0, .int .i64 0, .int .i64 0, .bool false, .int .u8 0, .slice none 0 0] 26)) = W2 at *
 have xx := HW.out.all
 have k0 : W2.cell? ⟨b, off, none⟩ = some (.int .i64 (t.kind : Int)) := (HK.out W2 HW.out.hb 0 (by simp)).1
 have k1 : W2.cell? ⟨b, off + 1, none⟩ = some (.string ⟨t.text.toArray⟩) := (HK.out W2 HW.out.hb 0 (by simp)).2.1
 generalize YC t.text = kd at *
 generalize t.kind = tk at *
 go_wp2_with fail
 refine (KD.out _).mono ?_
 rintro e w3 ⟨rfl, hb3⟩
 have HW3 := Hi (HW.out.below hb3)
 clear xx KD HW hb3 k0 k1
 have xx := HW3.out.all
 have HW4 := Hi (HW3.out.set1 (.int .i64 (kd : Int)))
 go_upto_region 5 with (fail)
 clear xx HW3
 generalize w3.setCell ⟨w.heap.size + 1, 1, none⟩ (.int .i64 (kd : Int)) = w4 at *
 have xx := HW4.out.all
 go_wp2_with fail
 refine (KK.out _ HW4.out.hb).mono ?_
 rintro e w5 ⟨rfl, hb5⟩
 have HW5 := Hi (HW4.out.below hb5)
 clear xx HW4 hb5 KK HTX
 have xx := HW5.out.all
 clear HK HS
 generalize letN s.kind = y at *
 go_wp2_with fail
 refine ZH (q := false) HW5.out.hr ?_ ?_ ?_
 · rfl
 · rfl
 · exact .no HO.out (YN HW5.out.hb)
theorem body_nomb {t s m : Tok} {q : List Tok} (A : Option Addr) (k : Nat) (tag : List UInt8) (hl : (t :: s :: m :: q).length ≤ 10000) (htx : ∀ x ∈ (t :: s :: m :: q), x.kind ≤ 6 ∧ x.text.length ≤ 9000) (w : World) (hS : SlAt encT 3 w A (t :: s :: m :: q)) (h4 : t.kind = 4) (h : 4 < YC t.text) (h6 : YC t.text ≤ 6) (hs : s.kind = 1) (hm : mboxR m = false) :
 Calls Tryz.prog 64 #[.string ⟨tag.toArray⟩, .slice A (t :: s :: m :: q).length k] w (ZZ (YM tag (t :: s :: m :: q)) w) := by
 obtain ⟨O, hO⟩ : ∃ O, YM tag (t :: s :: m :: q) = O := ⟨_, rfl⟩
 obtain ⟨n, hn⟩ : ∃ n, (t :: s :: m :: q).length = n := ⟨_, rfl⟩
 rw [hO, hn]
 have HS := Hi hS
 have HTX := Hi htx
 have hn0 : 0 < n := by rw [← hn]; simp
 have g0 : ((n : Int) == 0) = false := by simp; omega
 have g0' : ¬ (n : Int) = 0 := by omega
 have hn3 : 3 ≤ n := by rw [← hn]; simp
 have d3 : decide ((n : Int) < 3) = false := by simp; omega
 have d3' : decide (n < 3) = false := by simp; omega
 obtain ⟨b, off, rfl, hb0, _, _, _⟩ := tk_at HS.out (j := 0) (by simp)
 have HK := Hi (tokAt HS.out)
 have HO : Hid (O = none) := Hi (by rw [← hO]; rw [bodyR_mbox tag h4 h h6 hs, if_pos hm])
 have e6 : decide ((((YC t.text : Nat) : Int) ≤ 6)) = true := by simp; omega
 have e6' : decide (YC t.text ≤ 6) = true := by simp; omega
 have f2 : (((letN s.kind).toNat : Int) != 115) = false := by rw [hs]; decide
 have hmt := (htx m (by simp)).2
 have MB := Hi (fun W => rmailbox_any m (by omega) W)
 have e0 : (((YC t.text : Nat) : Int) == 0) = false := by simp; omega
 have e4 : decide ((((YC t.text : Nat) : Int) ≤ 4)) = false := by simp; omega
 have e4' : decide (YC t.text ≤ 4) = false := by simp; omega
 clear h
 have KK := Hi (fun W (hW : Below w.heap.size w W) => ZN (some ⟨b, off, none⟩) k (t :: s :: m :: q) hl (fun x' hx' => (HTX.out x' hx').1) W (HS.out.below hW))
 obtain ⟨KS, hKS⟩ : ∃ KS : ByteArray, (⟨(YK (t :: s :: m :: q)).toArray⟩ : ByteArray) = KS := ⟨_, rfl⟩
 rw [hKS, hn] at KK
 have ks0 : KS.size = n := by rw [← hKS, ← hn]; show (YK (t :: s :: m :: q)).toArray.size = _; simp [YK]
 have ks1 : 1 < KS.size := by rw [ks0, ← hn]; simp
 have kb1 : KS[1]'ks1 = letN s.kind := by subst hKS; simp [ByteArray.getElem_eq_getElem_data, YK]
 clear hO hS htx hl hn hKS hs hmt
 have f1 : ((t.kind : Int) != 4) = false := by rw [h4]; rfl
 have hlt := (HTX.out t (by simp)).2
 have KD := Hi (fun W => YZ ⟨t.text.toArray⟩ (by show t.text.toArray.size ≤ _; simp; omega) W)
 have KD : Hid (∀ W, Calls Tryz.prog 96 #[.string ⟨t.text.toArray⟩] W fun e w' => e = .returned (.int .i64 (YC t.text : Nat)) ∧ Below W.heap.size W w') := KD
 have HW := Hi (BW.start w tag)
 go_enter Tryz.func64, Tryz.ntmps64
 go_upto_region 2 with (fail)
 generalize ((w.alloc (.cells #[.string ⟨#[]⟩, .int .i64 0, .string ⟨#[]⟩, .slice none 0 0, .int .i64 0, .int .i64 0, .bool false, .int .u8 0, .slice none 0 0] 26)).alloc (.cells #[.string ⟨tag.toArray⟩, .int .i64 0, .string ⟨#[]⟩, .slice none 0 0, .int .i64 0, .int .i64 0, .bool false, .int .u8 0, .slice none 0 0] 26)) = W2 at *
 have xx := HW.out.all
 have k0 : W2.cell? ⟨b, off, none⟩ = some (.int .i64 (t.kind : Int)) := (HK.out W2 HW.out.hb 0 (by simp)).1
 have k1 : W2.cell? ⟨b, off + 1, none⟩ = some (.string ⟨t.text.toArray⟩) := (HK.out W2 HW.out.hb 0 (by simp)).2.1
 generalize YC t.text = kd at *
 generalize t.kind = tk at *
 go_wp2_with fail
 refine (KD.out _).mono ?_
 rintro e w3 ⟨rfl, hb3⟩
 have HW3 := Hi (HW.out.below hb3)
 clear xx KD HW hb3 k0 k1
 have xx := HW3.out.all
 have HW4 := Hi (HW3.out.set1 (.int .i64 (kd : Int)))
 go_upto_region 5 with (fail)
 clear xx HW3
 generalize w3.setCell ⟨w.heap.size + 1, 1, none⟩ (.int .i64 (kd : Int)) = w4 at *
 have xx := HW4.out.all
 go_wp2_with fail
 refine (KK.out _ HW4.out.hb).mono ?_
 rintro e w5 ⟨rfl, hb5⟩
 have HW5 := Hi (HW4.out.below hb5)
 clear xx HW4 hb5 KK HTX
 have xx := HW5.out.all
 generalize letN s.kind = y at *
 have pq := HK.out.at HW5.out.hb 2 6 7 8 (x := m) rfl rfl rfl rfl
 have HW6 := Hi (HW5.out.set2 (.string ⟨m.text.toArray⟩))
 go_upto_region 12 with (fail)
 clear xx HW5 pq
 generalize w5.setCell ⟨w.heap.size + 1, 2, none⟩ (.string ⟨m.text.toArray⟩) = w6 at *
 have xx := HW6.out.all
 have pq := HK.out.at HW6.out.hb 2 6 7 8 (x := m) rfl rfl rfl rfl
 go_wp2_with fail
 refine (MB.out _).mono ?_
 rintro e w7 ⟨rfl, hb7⟩
 have HW7 := Hi (HW6.out.below hb7)
 clear xx HW6 hb7 MB pq
 have xx := HW7.out.all
 clear HK HS
 generalize mboxR m = mb at *
 subst hm
 go_wp2_with fail
 refine ZH (q := false) HW7.out.hr ?_ ?_ ?_
 · rfl
 · rfl
 · exact .no HO.out (YN HW7.out.hb)
theorem body_sel {t s m : Tok} (A : Option Addr) (k : Nat) (tag : List UInt8) (hl : (t :: s :: m :: []).length ≤ 10000) (htx : ∀ x ∈ (t :: s :: m :: []), x.kind ≤ 6 ∧ x.text.length ≤ 9000) (w : World) (hS : SlAt encT 3 w A (t :: s :: m :: [])) (h4 : t.kind = 4) (h : 4 < YC t.text) (h6 : YC t.text ≤ 6) (hs : s.kind = 1) (hm : mboxR m = true) (h5 : YC t.text = 5) :
 Calls Tryz.prog 64 #[.string ⟨tag.toArray⟩, .slice A (t :: s :: m :: []).length k] w (ZZ (YM tag (t :: s :: m :: [])) w) := by
 obtain ⟨O, hO⟩ : ∃ O, YM tag (t :: s :: m :: []) = O := ⟨_, rfl⟩
 obtain ⟨n, hn⟩ : ∃ n, (t :: s :: m :: []).length = n := ⟨_, rfl⟩
 rw [hO, hn]
 have HS := Hi hS
 have HTX := Hi htx
 have hn0 : 0 < n := by rw [← hn]; simp
 have g0 : ((n : Int) == 0) = false := by simp; omega
 have g0' : ¬ (n : Int) = 0 := by omega
 have hn3 : 3 ≤ n := by rw [← hn]; simp
 have d3 : decide ((n : Int) < 3) = false := by simp; omega
 have d3' : decide (n < 3) = false := by simp; omega
 obtain ⟨b, off, rfl, hb0, _, _, _⟩ := tk_at HS.out (j := 0) (by simp)
 have HK := Hi (tokAt HS.out)
 have HO : Hid (O = some { cmd0 tag with kind := YC t.text, mbox := m.text }) := Hi (by rw [← hO]; rw [bodyR_mbox tag h4 h h6 hs, if_neg (by simp [hm]), if_pos h5, if_pos rfl])
 have e5 : (((YC t.text : Nat) : Int) == 5) = true := by rw [h5]; rfl
 have gn : ((n : Int) == 3) = true := by rw [← hn]; rfl
 clear h5
 have e6 : decide ((((YC t.text : Nat) : Int) ≤ 6)) = true := by simp; omega
 have e6' : decide (YC t.text ≤ 6) = true := by simp; omega
 have f2 : (((letN s.kind).toNat : Int) != 115) = false := by rw [hs]; decide
 have hmt := (htx m (by simp)).2
 have MB := Hi (fun W => rmailbox_any m (by omega) W)
 have e0 : (((YC t.text : Nat) : Int) == 0) = false := by simp; omega
 have e4 : decide ((((YC t.text : Nat) : Int) ≤ 4)) = false := by simp; omega
 have e4' : decide (YC t.text ≤ 4) = false := by simp; omega
 clear h
 have KK := Hi (fun W (hW : Below w.heap.size w W) => ZN (some ⟨b, off, none⟩) k (t :: s :: m :: []) hl (fun x' hx' => (HTX.out x' hx').1) W (HS.out.below hW))
 obtain ⟨KS, hKS⟩ : ∃ KS : ByteArray, (⟨(YK (t :: s :: m :: [])).toArray⟩ : ByteArray) = KS := ⟨_, rfl⟩
 rw [hKS, hn] at KK
 have ks0 : KS.size = n := by rw [← hKS, ← hn]; show (YK (t :: s :: m :: [])).toArray.size = _; simp [YK]
 have ks1 : 1 < KS.size := by rw [ks0, ← hn]; simp
 have kb1 : KS[1]'ks1 = letN s.kind := by subst hKS; simp [ByteArray.getElem_eq_getElem_data, YK]
 clear hO hS htx hl hn hKS hs hmt
 have f1 : ((t.kind : Int) != 4) = false := by rw [h4]; rfl
 have hlt := (HTX.out t (by simp)).2
 have KD := Hi (fun W => YZ ⟨t.text.toArray⟩ (by show t.text.toArray.size ≤ _; simp; omega) W)
 have KD : Hid (∀ W, Calls Tryz.prog 96 #[.string ⟨t.text.toArray⟩] W fun e w' => e = .returned (.int .i64 (YC t.text : Nat)) ∧ Below W.heap.size W w') := KD
 have HW := Hi (BW.start w tag)
 go_enter Tryz.func64, Tryz.ntmps64
 go_upto_region 2 with (fail)
 generalize ((w.alloc (.cells #[.string ⟨#[]⟩, .int .i64 0, .string ⟨#[]⟩, .slice none 0 0, .int .i64 0, .int .i64 0, .bool false, .int .u8 0, .slice none 0 0] 26)).alloc (.cells #[.string ⟨tag.toArray⟩, .int .i64 0, .string ⟨#[]⟩, .slice none 0 0, .int .i64 0, .int .i64 0, .bool false, .int .u8 0, .slice none 0 0] 26)) = W2 at *
 have xx := HW.out.all
 have k0 : W2.cell? ⟨b, off, none⟩ = some (.int .i64 (t.kind : Int)) := (HK.out W2 HW.out.hb 0 (by simp)).1
 have k1 : W2.cell? ⟨b, off + 1, none⟩ = some (.string ⟨t.text.toArray⟩) := (HK.out W2 HW.out.hb 0 (by simp)).2.1
 generalize YC t.text = kd at *
 generalize t.kind = tk at *
 go_wp2_with fail
 refine (KD.out _).mono ?_
 rintro e w3 ⟨rfl, hb3⟩
 have HW3 := Hi (HW.out.below hb3)
 clear xx KD HW hb3 k0 k1
 have xx := HW3.out.all
 have HW4 := Hi (HW3.out.set1 (.int .i64 (kd : Int)))
 go_upto_region 5 with (fail)
 clear xx HW3
 generalize w3.setCell ⟨w.heap.size + 1, 1, none⟩ (.int .i64 (kd : Int)) = w4 at *
 have xx := HW4.out.all
 go_wp2_with fail
 refine (KK.out _ HW4.out.hb).mono ?_
 rintro e w5 ⟨rfl, hb5⟩
 have HW5 := Hi (HW4.out.below hb5)
 clear xx HW4 hb5 KK HTX
 have xx := HW5.out.all
 generalize letN s.kind = y at *
 have pq := HK.out.at HW5.out.hb 2 6 7 8 (x := m) rfl rfl rfl rfl
 have HW6 := Hi (HW5.out.set2 (.string ⟨m.text.toArray⟩))
 go_upto_region 12 with (fail)
 clear xx HW5 pq
 generalize w5.setCell ⟨w.heap.size + 1, 2, none⟩ (.string ⟨m.text.toArray⟩) = w6 at *
 have xx := HW6.out.all
 have pq := HK.out.at HW6.out.hb 2 6 7 8 (x := m) rfl rfl rfl rfl
 go_wp2_with fail
 refine (MB.out _).mono ?_
 rintro e w7 ⟨rfl, hb7⟩
 have HW7 := Hi (HW6.out.below hb7)
 clear xx HW6 hb7 MB pq
 have xx := HW7.out.all
 clear HK HS
 generalize mboxR m = mb at *
 subst hm
 go_wp2_with fail
 refine ZH (q := true) HW7.out.hr ?_ ?_ ?_
 · rfl
 · rfl
 · exact .plain (c := { cmd0 tag with kind := kd, mbox := m.text }) HO.out rfl rfl (YN HW7.out.hb)
theorem body_sel2 {t s m z : Tok} {d : List Tok} (A : Option Addr) (k : Nat) (tag : List UInt8) (hl : (t :: s :: m :: z :: d).length ≤ 10000) (htx : ∀ x ∈ (t :: s :: m :: z :: d), x.kind ≤ 6 ∧ x.text.length ≤ 9000) (w : World) (hS : SlAt encT 3 w A (t :: s :: m :: z :: d)) (h4 : t.kind = 4) (h : 4 < YC t.text) (h6 : YC t.text ≤ 6) (hs : s.kind = 1) (hm : mboxR m = true) (h5 : YC t.text = 5) :
 Calls Tryz.prog 64 #[.string ⟨tag.toArray⟩, .slice A (t :: s :: m :: z :: d).length k] w (ZZ (YM tag (t :: s :: m :: z :: d)) w) := by
 obtain ⟨O, hO⟩ : ∃ O, YM tag (t :: s :: m :: z :: d) = O := ⟨_, rfl⟩
 obtain ⟨n, hn⟩ : ∃ n, (t :: s :: m :: z :: d).length = n := ⟨_, rfl⟩
 rw [hO, hn]
 have HS := Hi hS
 have HTX := Hi htx
 have hn0 : 0 < n := by rw [← hn]; simp
 have g0 : ((n : Int) == 0) = false := by simp; omega
 have g0' : ¬ (n : Int) = 0 := by omega
 have hn3 : 3 ≤ n := by rw [← hn]; simp
 have d3 : decide ((n : Int) < 3) = false := by simp; omega
 have d3' : decide (n < 3) = false := by simp; omega
 obtain ⟨b, off, rfl, hb0, _, _, _⟩ := tk_at HS.out (j := 0) (by simp)
 have HK := Hi (tokAt HS.out)
 have HO : Hid (O = none) := Hi (by rw [← hO]; rw [bodyR_mbox tag h4 h h6 hs, if_neg (by simp [hm]), if_pos h5, if_neg (by simp)])
 have e5 : (((YC t.text : Nat) : Int) == 5) = true := by rw [h5]; rfl
 have gn : ((n : Int) == 3) = false := by rw [← hn]; simp; omega
 clear h5
 have e6 : decide ((((YC t.text : Nat) : Int) ≤ 6)) = true := by simp; omega
 have e6' : decide (YC t.text ≤ 6) = true := by simp; omega
 have f2 : (((letN s.kind).toNat : Int) != 115) = false := by rw [hs]; decide
 have hmt := (htx m (by simp)).2
 have MB := Hi (fun W => rmailbox_any m (by omega) W)
 have e0 : (((YC t.text : Nat) : Int) == 0) = false := by simp; omega
 have e4 : decide ((((YC t.text : Nat) : Int) ≤ 4)) = false := by simp; omega
 have e4' : decide (YC t.text ≤ 4) = false := by simp; omega
 clear h
 have KK := Hi (fun W (hW : Below w.heap.size w W) => ZN (some ⟨b, off, none⟩) k (t :: s :: m :: z :: d) hl (fun x' hx' => (HTX.out x' hx').1) W (HS.out.below hW))
 obtain ⟨KS, hKS⟩ : ∃ KS : ByteArray, (⟨(YK (t :: s :: m :: z :: d)).toArray⟩ : ByteArray) = KS := ⟨_, rfl⟩
 rw [hKS, hn] at KK
 have ks0 : KS.size = n := by rw [← hKS, ← hn]; show (YK (t :: s :: m :: z :: d)).toArray.size = _; simp [YK]
 have ks1 : 1 < KS.size := by rw [ks0, ← hn]; simp
 have kb1 : KS[1]'ks1 = letN s.kind := by subst hKS; simp [ByteArray.getElem_eq_getElem_data, YK]
 clear hO hS htx hl hn hKS hs hmt
 have f1 : ((t.kind : Int) != 4) = false := by rw [h4]; rfl
 have hlt := (HTX.out t (by simp)).2
 have KD := Hi (fun W => YZ ⟨t.text.toArray⟩ (by show t.text.toArray.size ≤ _; simp; omega) W)
 have KD : Hid (∀ W, Calls Tryz.prog 96 #[.string ⟨t.text.toArray⟩] W fun e w' => e = .returned (.int .i64 (YC t.text : Nat)) ∧ Below W.heap.size W w') := KD
 have HW := Hi (BW.start w tag)
 go_enter Tryz.func64, Tryz.ntmps64
 go_upto_region 2 with (fail)
 generalize ((w.alloc (.cells #[.string ⟨#[]⟩, .int .i64 0, .string ⟨#[]⟩, .slice none 0 0, .int .i64 0, .int .i64 0, .bool false, .int .u8 0, .slice none 0 0] 26)).alloc (.cells #[.string ⟨tag.toArray⟩, .int .i64 0, .string ⟨#[]⟩, .slice none 0 0, .int .i64 0, .int .i64 0, .bool false, .int .u8 0, .slice none 0 0] 26)) = W2 at *
 have xx := HW.out.all
 have k0 : W2.cell? ⟨b, off, none⟩ = some (.int .i64 (t.kind : Int)) := (HK.out W2 HW.out.hb 0 (by simp)).1
 have k1 : W2.cell? ⟨b, off + 1, none⟩ = some (.string ⟨t.text.toArray⟩) := (HK.out W2 HW.out.hb 0 (by simp)).2.1
 generalize YC t.text = kd at *
 generalize t.kind = tk at *
 go_wp2_with fail
 refine (KD.out _).mono ?_
 rintro e w3 ⟨rfl, hb3⟩
 have HW3 := Hi (HW.out.below hb3)
 clear xx KD HW hb3 k0 k1
 have xx := HW3.out.all
 have HW4 := Hi (HW3.out.set1 (.int .i64 (kd : Int)))
 go_upto_region 5 with (fail)
 clear xx HW3
 generalize w3.setCell ⟨w.heap.size + 1, 1, none⟩ (.int .i64 (kd : Int)) = w4 at *
 have xx := HW4.out.all
 go_wp2_with fail
 refine (KK.out _ HW4.out.hb).mono ?_
 rintro e w5 ⟨rfl, hb5⟩
 have HW5 := Hi (HW4.out.below hb5)
 clear xx HW4 hb5 KK HTX
 have xx := HW5.out.all
 generalize letN s.kind = y at *
 have pq := HK.out.at HW5.out.hb 2 6 7 8 (x := m) rfl rfl rfl rfl
 have HW6 := Hi (HW5.out.set2 (.string ⟨m.text.toArray⟩))
 go_upto_region 12 with (fail)
 clear xx HW5 pq
 generalize w5.setCell ⟨w.heap.size + 1, 2, none⟩ (.string ⟨m.text.toArray⟩) = w6 at *
 have xx := HW6.out.all
 have pq := HK.out.at HW6.out.hb 2 6 7 8 (x := m) rfl rfl rfl rfl
 go_wp2_with fail
 refine (MB.out _).mono ?_
 rintro e w7 ⟨rfl, hb7⟩
 have HW7 := Hi (HW6.out.below hb7)
 clear xx HW6 hb7 MB pq
 have xx := HW7.out.all
 clear HK HS
 generalize mboxR m = mb at *
 subst hm
 go_wp2_with fail
 refine ZH (q := false) HW7.out.hr ?_ ?_ ?_
 · rfl
 · rfl
 · exact .no HO.out (YN HW7.out.hb)
theorem body_app0 {t s m : Tok} (A : Option Addr) (k : Nat) (tag : List UInt8) (hl : (t :: s :: m :: []).length ≤ 10000) (htx : ∀ x ∈ (t :: s :: m :: []), x.kind ≤ 6 ∧ x.text.length ≤ 9000) (w : World) (hS : SlAt encT 3 w A (t :: s :: m :: [])) (h4 : t.kind = 4) (h : 4 < YC t.text) (h6 : YC t.text ≤ 6) (hs : s.kind = 1) (hm : mboxR m = true) (h5 : YC t.text ≠ 5) :
 Calls Tryz.prog 64 #[.string ⟨tag.toArray⟩, .slice A (t :: s :: m :: []).length k] w (ZZ (YM tag (t :: s :: m :: [])) w) := by
 obtain ⟨O, hO⟩ : ∃ O, YM tag (t :: s :: m :: []) = O := ⟨_, rfl⟩
 obtain ⟨n, hn⟩ : ∃ n, (t :: s :: m :: []).length = n := ⟨_, rfl⟩
 rw [hO, hn]
 have HS := Hi hS
 have HTX := Hi htx
 have hn0 : 0 < n := by rw [← hn]; simp
 have g0 : ((n : Int) == 0) = false := by simp; omega
 have g0' : ¬ (n : Int) = 0 := by omega
 have hn3 : 3 ≤ n := by rw [← hn]; simp
 have d3 : decide ((n : Int) < 3) = false := by simp; omega
 have d3' : decide (n < 3) = false := by simp; omega
 obtain ⟨b, off, rfl, hb0, _, _, _⟩ := tk_at HS.out (j := 0) (by simp)
 have HK := Hi (tokAt HS.out)
 have HO : Hid (O = none) := Hi (by rw [← hO]; rw [bodyR_mbox tag h4 h h6 hs, if_neg (by simp [hm]), if_neg h5])
 have e5 : (((YC t.text : Nat) : Int) == 5) = false := by simp; omega
 have e5' : ¬ (((YC t.text : Nat) : Int) = 5) := by omega
 have d4 : decide ((n : Int) < 4) = true := by rw [← hn]; rfl
 have d4' : decide (n < 4) = true := by rw [← hn]; rfl
 clear h5
 have e6 : decide ((((YC t.text : Nat) : Int) ≤ 6)) = true := by simp; omega
 have e6' : decide (YC t.text ≤ 6) = true := by simp; omega
 have f2 : (((letN s.kind).toNat : Int) != 115) = false := by rw [hs]; decide
 have hmt := (htx m (by simp)).2
 have MB := Hi (fun W => rmailbox_any m (by omega) W)
 have e0 : (((YC t.text : Nat) : Int) == 0) = false := by simp; omega
 have e4 : decide ((((YC t.text : Nat) : Int) ≤ 4)) = false := by simp; omega
 have e4' : decide (YC t.text ≤ 4) = false := by simp; omega
 clear h
 have KK := Hi (fun W (hW : Below w.heap.size w W) => ZN (some ⟨b, off, none⟩) k (t :: s :: m :: []) hl (fun x' hx' => (HTX.out x' hx').1) W (HS.out.below hW))
 obtain ⟨KS, hKS⟩ : ∃ KS : ByteArray, (⟨(YK (t :: s :: m :: [])).toArray⟩ : ByteArray) = KS := ⟨_, rfl⟩
 rw [hKS, hn] at KK
 have ks0 : KS.size = n := by rw [← hKS, ← hn]; show (YK (t :: s :: m :: [])).toArray.size = _; simp [YK]
 have ks1 : 1 < KS.size := by rw [ks0, ← hn]; simp
 have kb1 : KS[1]'ks1 = letN s.kind := by subst hKS; simp [ByteArray.getElem_eq_getElem_data, YK]
 clear hO hS htx hl hn hKS hs hmt
 have f1 : ((t.kind : Int) != 4) = false := by rw [h4]; rfl
 have hlt := (HTX.out t (by simp)).2
 have KD := Hi (fun W => YZ ⟨t.text.toArray⟩ (by show t.text.toArray.size ≤ _; simp; omega) W)
 have KD : Hid (∀ W, Calls Tryz.prog 96 #[.string ⟨t.text.toArray⟩] W fun e w' => e = .returned (.int .i64 (YC t.text : Nat)) ∧ Below W.heap.size W w') := KD
 have HW := Hi (BW.start w tag)
 go_enter Tryz.func64, Tryz.ntmps64
 go_upto_region 2 with (fail)
 generalize ((w.alloc (.cells #[.string ⟨#[]⟩, .int .i64 0, .string ⟨#[]⟩, .slice none 0 0, .int .i64 0, .int .i64 0, .bool false, .int .u8 0, .slice none 0 0] 26)).alloc (.cells #[.string ⟨tag.toArray⟩, .int .i64 0, .string ⟨#[]⟩, .slice none 0 0, .int .i64 0, .int .i64 0, .bool false, .int .u8 0, .slice none 0 0] 26)) = W2 at *
 have xx := HW.out.all
 have k0 : W2.cell? ⟨b, off, none⟩ = some (.int .i64 (t.kind : Int)) := (HK.out W2 HW.out.hb 0 (by simp)).1
 have k1 : W2.cell? ⟨b, off + 1, none⟩ = some (.string ⟨t.text.toArray⟩) := (HK.out W2 HW.out.hb 0 (by simp)).2.1
 generalize YC t.text = kd at *
 generalize t.kind = tk at *
 go_wp2_with fail
 refine (KD.out _).mono ?_
 rintro e w3 ⟨rfl, hb3⟩
 have HW3 := Hi (HW.out.below hb3)
 clear xx KD HW hb3 k0 k1
 have xx := HW3.out.all
 have HW4 := Hi (HW3.out.set1 (.int .i64 (kd : Int)))
 go_upto_region 5 with (fail)
 clear xx HW3
 generalize w3.setCell ⟨w.heap.size + 1, 1, none⟩ (.int .i64 (kd : Int)) = w4 at *
 have xx := HW4.out.all
 go_wp2_with fail
 refine (KK.out _ HW4.out.hb).mono ?_
 rintro e w5 ⟨rfl, hb5⟩
 have HW5 := Hi (HW4.out.below hb5)
 clear xx HW4 hb5 KK HTX
 have xx := HW5.out.all
 generalize letN s.kind = y at *
 have pq := HK.out.at HW5.out.hb 2 6 7 8 (x := m) rfl rfl rfl rfl
 have HW6 := Hi (HW5.out.set2 (.string ⟨m.text.toArray⟩))
 go_upto_region 12 with (fail)
 clear xx HW5 pq
 generalize w5.setCell ⟨w.heap.size + 1, 2, none⟩ (.string ⟨m.text.toArray⟩) = w6 at *
 have xx := HW6.out.all
 have pq := HK.out.at HW6.out.hb 2 6 7 8 (x := m) rfl rfl rfl rfl
 go_wp2_with fail
 refine (MB.out _).mono ?_
 rintro e w7 ⟨rfl, hb7⟩
 have HW7 := Hi (HW6.out.below hb7)
 clear xx HW6 hb7 MB pq
 have xx := HW7.out.all
 clear HK HS
 generalize mboxR m = mb at *
 subst hm
 go_wp2_with fail
 refine ZH (q := false) HW7.out.hr ?_ ?_ ?_
 · rfl
 · rfl
 · exact .no HO.out (YN HW7.out.hb)
theorem body_app1 {t s m z : Tok} {d : List Tok} (A : Option Addr) (k : Nat) (tag : List UInt8) (hl : (t :: s :: m :: z :: d).length ≤ 10000) (htx : ∀ x ∈ (t :: s :: m :: z :: d), x.kind ≤ 6 ∧ x.text.length ≤ 9000) (w : World) (hS : SlAt encT 3 w A (t :: s :: m :: z :: d)) (h4 : t.kind = 4) (h : 4 < YC t.text) (h6 : YC t.text ≤ 6) (hs : s.kind = 1) (hm : mboxR m = true) (h5 : YC t.text ≠ 5) (hz : z.kind ≠ 1) :
 Calls Tryz.prog 64 #[.string ⟨tag.toArray⟩, .slice A (t :: s :: m :: z :: d).length k] w (ZZ (YM tag (t :: s :: m :: z :: d)) w) := by
 obtain ⟨O, hO⟩ : ∃ O, YM tag (t :: s :: m :: z :: d) = O := ⟨_, rfl⟩
 obtain ⟨n, hn⟩ : ∃ n, (t :: s :: m :: z :: d).length = n := ⟨_, rfl⟩
 rw [hO, hn]
 have HS := Hi hS
 have HTX := Hi htx
 have hn0 : 0 < n := by rw [← hn]; simp
 have g0 : ((n : Int) == 0) = false := by simp; omega
 have g0' : ¬ (n : Int) = 0 := by omega
 have hn3 : 3 ≤ n := by rw [← hn]; simp
 have d3 : decide ((n : Int) < 3) = false := by simp; omega
 have d3' : decide (n < 3) = false := by simp; omega
 obtain ⟨b, off, rfl, hb0, _, _, _⟩ := tk_at HS.out (j := 0) (by simp)
 have HK := Hi (tokAt HS.out)
 have HO : Hid (O = none) := Hi (by rw [← hO]; rw [bodyR_mbox tag h4 h h6 hs, if_neg (by simp [hm]), if_neg h5]; exact if_neg hz)
 have e5 : (((YC t.text : Nat) : Int) == 5) = false := by simp; omega
 have e5' : ¬ (((YC t.text : Nat) : Int) = 5) := by omega
 have d4 : decide ((n : Int) < 4) = false := by rw [← hn]; simp; omega
 have d4' : decide (n < 4) = false := by rw [← hn]; simp
 have f3 : (((letN z.kind).toNat : Int) != 115) = true := by
  have hz6 := (htx z (by simp)).1
  have : ¬ letN z.kind = 115 := fun e => hz ((letN_s hz6).1 e)
  have : ¬ (letN z.kind).toNat = 115 := fun e => this (UInt8.toNat_inj.1 e)
  simp; omega
 clear h5 hz
 have e6 : decide ((((YC t.text : Nat) : Int) ≤ 6)) = true := by simp; omega
 have e6' : decide (YC t.text ≤ 6) = true := by simp; omega
 have f2 : (((letN s.kind).toNat : Int) != 115) = false := by rw [hs]; decide
 have hmt := (htx m (by simp)).2
 have MB := Hi (fun W => rmailbox_any m (by omega) W)
 have e0 : (((YC t.text : Nat) : Int) == 0) = false := by simp; omega
 have e4 : decide ((((YC t.text : Nat) : Int) ≤ 4)) = false := by simp; omega
 have e4' : decide (YC t.text ≤ 4) = false := by simp; omega
 clear h
 have KK := Hi (fun W (hW : Below w.heap.size w W) => ZN (some ⟨b, off, none⟩) k (t :: s :: m :: z :: d) hl (fun x' hx' => (HTX.out x' hx').1) W (HS.out.below hW))
 obtain ⟨KS, hKS⟩ : ∃ KS : ByteArray, (⟨(YK (t :: s :: m :: z :: d)).toArray⟩ : ByteArray) = KS := ⟨_, rfl⟩
 rw [hKS, hn] at KK
 have ks0 : KS.size = n := by rw [← hKS, ← hn]; show (YK (t :: s :: m :: z :: d)).toArray.size = _; simp [YK]
 have ks1 : 1 < KS.size := by rw [ks0, ← hn]; simp
 have kb1 : KS[1]'ks1 = letN s.kind := by subst hKS; simp [ByteArray.getElem_eq_getElem_data, YK]
 have ks3 : 3 < KS.size := by rw [ks0, ← hn]; simp
 have kb3 : KS[3]'ks3 = letN z.kind := by subst hKS; simp [ByteArray.getElem_eq_getElem_data, YK]
 clear hO hS htx hl hn hKS hs hmt
 have f1 : ((t.kind : Int) != 4) = false := by rw [h4]; rfl
 have hlt := (HTX.out t (by simp)).2
 have KD := Hi (fun W => YZ ⟨t.text.toArray⟩ (by show t.text.toArray.size ≤ _; simp; omega) W)
 have KD : Hid (∀ W, Calls Tryz.prog 96 #[.string ⟨t.text.toArray⟩] W fun e w' => e = .returned (.int .i64 (YC t.text : Nat)) ∧ Below W.heap.size W w') := KD
 have HW := Hi (BW.start w tag)
 go_enter Tryz.func64, Tryz.ntmps64
 go_upto_region 2 with (fail)
 generalize ((w.alloc (.cells #[.string ⟨#[]⟩, .int .i64 0, .string ⟨#[]⟩, .slice none 0 0, .int .i64 0, .int .i64 0, .bool false, .int .u8 0, .slice none 0 0] 26)).alloc (.cells #[.string ⟨tag.toArray⟩, .int .i64 0, .string ⟨#[]⟩, .slice none 0 0, .int .i64 0, .int .i64 0, .bool false, .int .u8 0, .slice none 0 0] 26)) = W2 at *
 have xx := HW.out.all
 have k0 : W2.cell? ⟨b, off, none⟩ = some (.int .i64 (t.kind : Int)) := (HK.out W2 HW.out.hb 0 (by simp)).1
 have k1 : W2.cell? ⟨b, off + 1, none⟩ = some (.string ⟨t.text.toArray⟩) := (HK.out W2 HW.out.hb 0 (by simp)).2.1
 generalize YC t.text = kd at *
 generalize t.kind = tk at *
 go_wp2_with fail
 refine (KD.out _).mono ?_
 rintro e w3 ⟨rfl, hb3⟩
 have HW3 := Hi (HW.out.below hb3)
 clear xx KD HW hb3 k0 k1
 have xx := HW3.out.all
 have HW4 := Hi (HW3.out.set1 (.int .i64 (kd : Int)))
 go_upto_region 5 with (fail)
 clear xx HW3
 generalize w3.setCell ⟨w.heap.size + 1, 1, none⟩ (.int .i64 (kd : Int)) = w4 at *
 have xx := HW4.out.all
 go_wp2_with fail
 refine (KK.out _ HW4.out.hb).mono ?_
 rintro e w5 ⟨rfl, hb5⟩
 have HW5 := Hi (HW4.out.below hb5)
 clear xx HW4 hb5 KK HTX
 have xx := HW5.out.all
 generalize letN s.kind = y at *
 have pq := HK.out.at HW5.out.hb 2 6 7 8 (x := m) rfl rfl rfl rfl
 have HW6 := Hi (HW5.out.set2 (.string ⟨m.text.toArray⟩))
 go_upto_region 12 with (fail)
 clear xx HW5 pq
 generalize w5.setCell ⟨w.heap.size + 1, 2, none⟩ (.string ⟨m.text.toArray⟩) = w6 at *
 have xx := HW6.out.all
 have pq := HK.out.at HW6.out.hb 2 6 7 8 (x := m) rfl rfl rfl rfl
 go_wp2_with fail
 refine (MB.out _).mono ?_
 rintro e w7 ⟨rfl, hb7⟩
 have HW7 := Hi (HW6.out.below hb7)
 clear xx HW6 hb7 MB pq
 have xx := HW7.out.all
 clear HK HS
 generalize letN z.kind = zk at *
 generalize mboxR m = mb at *
 subst hm
 go_wp2_with fail
 refine ZH (q := false) HW7.out.hr ?_ ?_ ?_
 · rfl
 · rfl
 · exact .no HO.out (YN HW7.out.hb)
theorem ZZ.fin {O : Option Cmd} {w W w' : World} {q : Bool} {a0 a1 a2 a3 a4 a5 a6 a7 a8 : Value} (h : ZZ O W (.returned (.tuple #[.agg #[a0, a1, a2, a3, a4, a5, a6, a7, a8], .bool q])) w') (hb : Below w.heap.size w W) (hs : w.heap.size + 1 + 1 ≤ W.heap.size) :
 ZZ O w (.returned (.tuple #[.agg #[a0, a1, a2, a3, a4, a5, a6, a7, a8], .bool q])) (stC w' w.heap.size a0 a1 a2 a3 a4 a5 a6 a7 a8) := by
 obtain ⟨v, q', he, hag, hy, hn, hB⟩ := h
 injection he with he
 injection he with he
 have e0 : Value.agg #[a0, a1, a2, a3, a4, a5, a6, a7, a8] = v := by
  have := congrArg (fun a => a[0]?) he
  simpa using this
 have e1 : q = q' := by
  have := congrArg (fun a => a[1]?) he
  simpa using this
 subst e0 e1
 refine ⟨_, q, rfl, hag, fun hq => ?_, hn, YN (hb.trans (hB.mono hb.size))⟩
 obtain ⟨c, sv, dv, h1, h2, h3, h4, h5⟩ := hy hq
 refine ⟨c, sv, dv, h1, h2, Hi ?_, fun b off s n k e => Nat.le_trans (by omega) (h4 b off s n k e), fun b off s n k e => Nat.le_trans (by omega) (h5 b off s n k e)⟩
 rw [h1] at h3 ⊢
 exact h3.out.past h4 h5 (by omega) (stC_grown _ _ _ _ _ _ _ _ _ _ _)
theorem body_app {t s m z : Tok} {d : List Tok} (A : Option Addr) (k : Nat) (tag : List UInt8) (hl : (t :: s :: m :: z :: d).length ≤ 10000) (hc : (t :: s :: m :: z :: d).length ≤ k) (htx : ∀ x ∈ (t :: s :: m :: z :: d), x.kind ≤ 6 ∧ x.text.length ≤ 9000) (w : World) (hS : SlAt encT 3 w A (t :: s :: m :: z :: d)) (h4 : t.kind = 4) (h : 4 < YC t.text) (h6 : YC t.text ≤ 6) (hs : s.kind = 1) (hm : mboxR m = true) (h5 : YC t.text ≠ 5) (hz : z.kind = 1) :
 Calls Tryz.prog 64 #[.string ⟨tag.toArray⟩, .slice A (t :: s :: m :: z :: d).length k] w (ZZ (YM tag (t :: s :: m :: z :: d)) w) := by
 obtain ⟨O, hO⟩ : ∃ O, YM tag (t :: s :: m :: z :: d) = O := ⟨_, rfl⟩
 obtain ⟨n, hn⟩ : ∃ n, (t :: s :: m :: z :: d).length = n := ⟨_, rfl⟩
 rw [hO, hn]
 have HS := Hi hS
 have HTX := Hi htx
 have hn0 : 0 < n := by rw [← hn]; simp
 have g0 : ((n : Int) == 0) = false := by simp; omega
 have g0' : ¬ (n : Int) = 0 := by omega
 have hn3 : 3 ≤ n := by rw [← hn]; simp
 have d3 : decide ((n : Int) < 3) = false := by simp; omega
 have d3' : decide (n < 3) = false := by simp; omega
 have s0 := fun x lo hi mx W => sliceAtRT x lo hi mx W
 obtain ⟨A4, hA4⟩ : ∃ A4, offT A k 4 = A4 := ⟨_, rfl⟩
 have hn4 : n - 4 = d.length := by rw [← hn]; simp
 have S4 : Hid (∀ W, Below w.heap.size w W → SlAt encT 3 W A4 d) := Hi (fun W hW => by
  have h := slAt_drop (c := k) (lo := 4) (hS.below hW) hc (by simp)
  rw [hA4] at h
  exact h)
 have s1 : ∀ W, (Instr.slice 94 (.slice A n k) (some (.int .i64 4)) none none).run Tryz.prog W = .ok (.slice A4 d.length (k - 4)) W := fun W => by
  have h := sliceRT_l A n k 4 (by rw [← hn]; simp) W
  rw [hA4, hn4] at h
  exact h
 obtain ⟨b, off, rfl, hb0, _, _, _⟩ := tk_at HS.out (j := 0) (by simp)
 have HK := Hi (tokAt HS.out)
 have HO : Hid (O = appR { cmd0 tag with kind := YC t.text, mbox := m.text } d) := Hi (by rw [← hO, bodyR_mbox tag h4 h h6 hs, if_neg (by simp [hm]), if_neg h5]; exact if_pos hz)
 have AP := Hi (fun W (hW : Below w.heap.size w W) => appended_any A4 (k - 4) { cmd0 tag with kind := YC t.text, mbox := m.text } d rfl (by simp at hl; omega) (by simp only [List.length_cons] at hc; omega) (fun x hx => ⟨(htx x (by simp [hx])).1, Nat.le_trans (htx x (by simp [hx])).2 (by omega)⟩) W (S4.out W hW))
 have AP : Hid (∀ W, Below w.heap.size w W → Calls Tryz.prog 99 #[.agg #[.string ⟨tag.toArray⟩, .int .i64 ((YC t.text : Nat) : Int), .string ⟨m.text.toArray⟩, .slice none 0 0, .int .i64 0, .int .i64 0, .bool false, .int .u8 0, .slice none 0 0], .slice A4 d.length (k - 4)] W (ZZ (appR { cmd0 tag with kind := YC t.text, mbox := m.text } d) W)) := AP
 have e5 : (((YC t.text : Nat) : Int) == 5) = false := by simp; omega
 have e5' : ¬ (((YC t.text : Nat) : Int) = 5) := by omega
 have d4 : decide ((n : Int) < 4) = false := by rw [← hn]; simp; omega
 have d4' : decide (n < 4) = false := by rw [← hn]; simp
 have f3 : (((letN z.kind).toNat : Int) != 115) = false := by rw [hz]; decide
 generalize appR { cmd0 tag with kind := YC t.text, mbox := m.text } d = O7 at *
 clear h5 hz hn4 hA4 S4
 have e6 : decide ((((YC t.text : Nat) : Int) ≤ 6)) = true := by simp; omega
 have e6' : decide (YC t.text ≤ 6) = true := by simp; omega
 have f2 : (((letN s.kind).toNat : Int) != 115) = false := by rw [hs]; decide
 have hmt := (htx m (by simp)).2
 have MB := Hi (fun W => rmailbox_any m (by omega) W)
 have e0 : (((YC t.text : Nat) : Int) == 0) = false := by simp; omega
 have e4 : decide ((((YC t.text : Nat) : Int) ≤ 4)) = false := by simp; omega
 have e4' : decide (YC t.text ≤ 4) = false := by simp; omega
 clear h
 have KK := Hi (fun W (hW : Below w.heap.size w W) => ZN (some ⟨b, off, none⟩) k (t :: s :: m :: z :: d) hl (fun x' hx' => (HTX.out x' hx').1) W (HS.out.below hW))
 obtain ⟨KS, hKS⟩ : ∃ KS : ByteArray, (⟨(YK (t :: s :: m :: z :: d)).toArray⟩ : ByteArray) = KS := ⟨_, rfl⟩
 rw [hKS, hn] at KK
 have ks0 : KS.size = n := by rw [← hKS, ← hn]; show (YK (t :: s :: m :: z :: d)).toArray.size = _; simp [YK]
 have ks1 : 1 < KS.size := by rw [ks0, ← hn]; simp
 have kb1 : KS[1]'ks1 = letN s.kind := by subst hKS; simp [ByteArray.getElem_eq_getElem_data, YK]
 have ks3 : 3 < KS.size := by rw [ks0, ← hn]; simp
 have kb3 : KS[3]'ks3 = letN z.kind := by subst hKS; simp [ByteArray.getElem_eq_getElem_data, YK]
 have hle4 : 4 ≤ n := by rw [← hn]; simp
 clear hO hS htx hc hl hn hKS hs hmt
 have f1 : ((t.kind : Int) != 4) = false := by rw [h4]; rfl
 have hlt := (HTX.out t (by simp)).2
 have KD := Hi (fun W => YZ ⟨t.text.toArray⟩ (by show t.text.toArray.size ≤ _; simp; omega) W)
 have KD : Hid (∀ W, Calls Tryz.prog 96 #[.string ⟨t.text.toArray⟩] W fun e w' => e = .returned (.int .i64 (YC t.text : Nat)) ∧ Below W.heap.size W w') := KD
 have HW := Hi (BW.start w tag)
 go_enter Tryz.func64, Tryz.ntmps64
 go_upto_region 2 with (fail)
 generalize ((w.alloc (.cells #[.string ⟨#[]⟩, .int .i64 0, .string ⟨#[]⟩, .slice none 0 0, .int .i64 0, .int .i64 0, .bool false, .int .u8 0, .slice none 0 0] 26)).alloc (.cells #[.string ⟨tag.toArray⟩, .int .i64 0, .string ⟨#[]⟩, .slice none 0 0, .int .i64 0, .int .i64 0, .bool false, .int .u8 0, .slice none 0 0] 26)) = W2 at *
 have xx := HW.out.all
 have k0 : W2.cell? ⟨b, off, none⟩ = some (.int .i64 (t.kind : Int)) := (HK.out W2 HW.out.hb 0 (by simp)).1
 have k1 : W2.cell? ⟨b, off + 1, none⟩ = some (.string ⟨t.text.toArray⟩) := (HK.out W2 HW.out.hb 0 (by simp)).2.1
 generalize YC t.text = kd at *
 generalize t.kind = tk at *
 go_wp2_with fail
 refine (KD.out _).mono ?_
 rintro e w3 ⟨rfl, hb3⟩
 have HW3 := Hi (HW.out.below hb3)
 clear xx KD HW hb3 k0 k1
 have xx := HW3.out.all
 have HW4 := Hi (HW3.out.set1 (.int .i64 (kd : Int)))
 go_upto_region 5 with (fail)
 clear xx HW3
 generalize w3.setCell ⟨w.heap.size + 1, 1, none⟩ (.int .i64 (kd : Int)) = w4 at *
 have xx := HW4.out.all
 go_wp2_with fail
 refine (KK.out _ HW4.out.hb).mono ?_
 rintro e w5 ⟨rfl, hb5⟩
 have HW5 := Hi (HW4.out.below hb5)
 clear xx HW4 hb5 KK HTX
 have xx := HW5.out.all
 generalize letN s.kind = y at *
 have pq := HK.out.at HW5.out.hb 2 6 7 8 (x := m) rfl rfl rfl rfl
 have HW6 := Hi (HW5.out.set2 (.string ⟨m.text.toArray⟩))
 go_upto_region 12 with (fail)
 clear xx HW5 pq
 generalize w5.setCell ⟨w.heap.size + 1, 2, none⟩ (.string ⟨m.text.toArray⟩) = w6 at *
 have xx := HW6.out.all
 have pq := HK.out.at HW6.out.hb 2 6 7 8 (x := m) rfl rfl rfl rfl
 go_wp2_with fail
 refine (MB.out _).mono ?_
 rintro e w7 ⟨rfl, hb7⟩
 have HW7 := Hi (HW6.out.below hb7)
 clear xx HW6 hb7 MB pq
 have xx := HW7.out.all
 clear HK HS
 generalize letN z.kind = zk at *
 generalize mboxR m = mb at *
 subst hm
 have AQ : Hid (∀ W, Below w7.heap.size w7 W → Calls Tryz.prog 99 #[.agg #[.string ⟨tag.toArray⟩, .int .i64 (kd : Int), .string ⟨m.text.toArray⟩, .slice none 0 0, .int .i64 0, .int .i64 0, .bool false, .int .u8 0, .slice none 0 0], .slice A4 d.length (k - 4)] W fun e w' => ∃ (q : Bool) (s0 : ByteArray) (i1 : Int) (s2 : ByteArray) (A3 : Option Addr) (n3 k3 : Nat) (i4 i5 : Int) (q6 : Bool) (i7 : Int) (A8 : Option Addr) (n8 k8 : Nat), e = .returned (.tuple #[.agg #[.string s0, .int .i64 i1, .string s2, .slice A3 n3 k3, .int .i64 i4, .int .i64 i5, .bool q6, .int .u8 i7, .slice A8 n8 k8], .bool q]) ∧ BW w w' (.string ⟨tag.toArray⟩) (.int .i64 (kd : Int)) (.string ⟨m.text.toArray⟩) (.slice none 0 0) (.int .i64 0) (.int .i64 0) (.bool false) (.int .u8 0) (.slice none 0 0) ∧ ZZ O w (.returned (.tuple #[.agg #[.string s0, .int .i64 i1, .string s2, .slice A3 n3 k3, .int .i64 i4, .int .i64 i5, .bool q6, .int .u8 i7, .slice A8 n8 k8], .bool q])) (stC w' w.heap.size (.string s0) (.int .i64 i1) (.string s2) (.slice A3 n3 k3) (.int .i64 i4) (.int .i64 i5) (.bool q6) (.int .u8 i7) (.slice A8 n8 k8))) := Hi (fun W hW => by
  have hw := HW7.out.below hW
  refine (AP.out W hw.hb).mono ?_
  rintro e w' h
  obtain ⟨v, q, he, ⟨s0, i1, s2, A3, n3, k3, i4, i5, q6, i7, A8, n8, k8, hv⟩, _⟩ := id h
  subst he
  rw [hv] at h ⊢
  obtain ⟨_, _, _, _, _, _, hB⟩ := id h
  exact ⟨q, _, _, _, _, _, _, _, _, _, _, _, _, _, rfl, hw.below hB, by rw [HO.out]; exact h.fin hw.hb hw.hs⟩)
 clear AP
 go_wp2_with fail
 go_region_with (first
  | (go_at_call 99; refine (AQ.out _ (by repeat (first | assumption | exact Below.refl _ _ | refine belDrawN ?_ _ | refine ZJ ?_))).mono ?_; rintro e w9 ⟨q, s0, i1, s2, A3, n3, k3, i4, i5, q6, i7, A8, n8, k8, rfl, HW9, hp⟩; obtain ⟨y0, y1, y2, y3, y4, y5, y6, y7, y8⟩ := ZS HW9.hr; have uy := fun j => Joins.unfrozen_of_block HW9.hr j))
 all_goals
  go_wp2_with fail
  first
  | (refine ZH (q := q) HW9.hr ?_ ?_ ?_
     · rfl
     · rfl
     · exact hp)
  | (refine body_finD (q := q) HW9.hr ?_ ?_ ?_
     · rfl
     · rfl
     · exact .drew hp)
end Go.Proofs.YtpgfnlhfciacoaaGreatDoor
