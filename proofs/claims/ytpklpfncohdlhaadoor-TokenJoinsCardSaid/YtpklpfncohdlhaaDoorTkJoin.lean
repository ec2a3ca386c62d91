/- token: form, Join. -/
import Derived.Test.YtpklpfncohdlhaaDoorTkMem
import Derived.Test.YtpklpfncohdlhaaDoorQuoted
import Derived.Test.YtpklpfncohdlhaaDoorLit
import Derived.Test.YtpklpfncohdlhaaDoorBel
import Derived.Test.YtpklpfncohdlhaaDoorAppStr
import Derived.LoopIn
import Derived.Lib.SlBytesConst
namespace Go.Proofs.YtpklpfncohdlhaaDoor
open Go.RowKit

/-- One byte, laid by a literal. -/
theorem byAt_const (w : World) (x : UInt8) (fr : Nat × Nat) : ByAt (w.heap.size + 1) (w.alloc (.cells #[.int .u8 (x.toNat : Int)] 5 fr)) (some ⟨w.heap.size, 0, none⟩) 1 [x] := by
  refine ⟨Nat.le_refl _, .inr ⟨w.heap.size, 0, rfl, by omega, by simp, fun j hj => ?_⟩⟩
  have hj0 : j = 0 := by simpa using hj
  subst hj0
  exact Joins.cell_alloc_mark_at w _ _ _ _ 0 rfl

theorem convC (w : World) (n c : Nat) (x : Int) : (convert 22 22 (.slice (some ⟨w.heap.size, 0, none⟩) n c)).run Tryd.prog (w.alloc (.cells #[.int .u8 x] 5)) = .ok (.slice (some ⟨w.heap.size, 0, none⟩) n c) (w.alloc (.cells #[.int .u8 x] 5 (1, 2))) :=
  Lib.run_convert_bytes_const (P := Tryd.prog) w 22 5 #[.int .u8 x] n c Tryd.underlying22 Tryd.underlying5

theorem convC1 (w : World) (O : Obj) (n c : Nat) (x : Int) : (convert 22 22 (.slice (some ⟨w.heap.size + 1, 0, none⟩) n c)).run Tryd.prog ((w.alloc O).alloc (.cells #[.int .u8 x] 5)) = .ok (.slice (some ⟨w.heap.size + 1, 0, none⟩) n c) ((w.alloc O).alloc (.cells #[.int .u8 x] 5 (1, 2))) := by
  have := convC (w.alloc O) n c x
  rwa [World.size_alloc] at this
theorem byAt_const1 (w : World) (O : Obj) (x : UInt8) (fr : Nat × Nat) : ByAt (w.heap.size + 2) ((w.alloc O).alloc (.cells #[.int .u8 (x.toNat : Int)] 5 fr)) (some ⟨w.heap.size + 1, 0, none⟩) 1 [x] := by
  have := byAt_const (w.alloc O) x fr
  rwa [World.size_alloc] at this
/-- What form answers: a slice that reads as x. -/
def FmPost (x : List UInt8) (w : World) (e : Ending) (w' : World) : Prop := ∃ A c, e = .returned (.slice A x.length c) ∧ ByAt w'.heap.size w' A c x ∧ Below w.heap.size w w'

set_option maxRecDepth 100000 in
set_option maxHeartbeats 2000000 in
theorem form_any (t : Tok) (hk : t.kind ≤ 6) (hx : t.text.length ≤ 400000) (w : World) (henv : Env w) :
    Calls Tryd.prog 28 #[.agg #[.int .i64 (t.kind : Int), .string ⟨t.text.toArray⟩, .int .i64 (t.at_ : Int)]] w (FmPost (formT t.kind t.text) w) := by
  obtain ⟨kd, x, a⟩ := t
  simp only at hk hx ⊢
  have kc := fun W O n c x => convC1 W O n c x
  have HE := Lib.hid (fun w1 (hB : Below w.heap.size w w1) => henv.below hB)
  clear henv
  have B1 := below_al w (.cells #[.int .i64 (kd : Int), .string ⟨x.toArray⟩, .int .i64 (a : Int)] 38)
  have hc : kd = 0 ∨ kd = 1 ∨ kd = 2 ∨ kd = 3 ∨ kd = 4 ∨ kd = 5 ∨ kd = 6 := by omega
  clear hk
  rcases hc with rfl | rfl | rfl | rfl | rfl | rfl | rfl
  · go_enter Tryd.func28, Tryd.ntmps28
    go_wp2_with fail
    go_ret
    exact ⟨none, 0, rfl, .nil _ _ _ _, B1⟩
  · go_enter Tryd.func28, Tryd.ntmps28
    go_wp2_with fail
    go_ret
    exact ⟨_, 1, rfl, (byAt_const1 _ _ 32 (1, 2)).mono (by simp), belAlloc B1 _⟩
  · go_enter Tryd.func28, Tryd.ntmps28
    go_wp2_with fail
    go_ret
    exact ⟨_, 1, rfl, (byAt_const1 _ _ 40 (1, 2)).mono (by simp), belAlloc B1 _⟩
  · go_enter Tryd.func28, Tryd.ntmps28
    go_wp2_with fail
    go_ret
    exact ⟨_, 1, rfl, (byAt_const1 _ _ 41 (1, 2)).mono (by simp), belAlloc B1 _⟩
  · obtain ⟨cap, w', hcs, hb, hP, hcap, hw', _⟩ := convB (w.alloc (.cells #[.int .i64 4, .string ⟨x.toArray⟩, .int .i64 (a : Int)] 38)) ⟨x.toArray⟩ x.length (by show x.toArray.size = _; simp)
    have HP := Lib.hid (show ByAt w'.heap.size w' _ cap x by simpa using hP)
    have HB := Lib.hid (below_next B1 hb)
    clear hP hb hw' B1
    go_enter Tryd.func28, Tryd.ntmps28
    go_wp2_with fail
    go_ret
    exact ⟨_, cap, rfl, HP.out, HB.out⟩
  · obtain ⟨cap, w', hcs, hb, hP, hcap, hw', _⟩ := convB (w.alloc (.cells #[.int .i64 5, .string ⟨x.toArray⟩, .int .i64 (a : Int)] 38)) ⟨x.toArray⟩ x.length (by show x.toArray.size = _; simp)
    have hP := (show ByAt w'.heap.size w' _ cap x by simpa using hP)
    have Q := Lib.hid (quoted_any _ _ cap x (by omega) w' hP)
    have HB := Lib.hid (below_next B1 hb)
    have HF := Lib.hid (show formT 5 x = if allT x = true then quotedL x else [] from rfl)
    obtain ⟨z, hz⟩ : ∃ z, (if allT x = true then quotedL x else []) = z := ⟨_, rfl⟩
    rw [hz] at Q HF
    clear hz hP hb hw' B1
    go_enter Tryd.func28, Tryd.ntmps28
    go_wp2_with fail
    refine Q.out.mono ?_
    rintro e w2 ⟨rfl, hb2⟩
    obtain ⟨cap2, w3, hcs2, hb3, hP3, hcap3, hw3, _⟩ := convB w2 ⟨z.toArray⟩ z.length (by show z.toArray.size = _; simp)
    have HP3 := Lib.hid (show ByAt w3.heap.size w3 _ cap2 z by simpa using hP3)
    have HB3 := Lib.hid (below_next (below_next HB.out hb2) hb3)
    clear hP3 hb3 hb2 hw3 Q hcs
    go_wp2_with fail
    go_ret
    exact ⟨_, cap2, by rw [HF.out]; rfl, by rw [HF.out]; exact HP3.out, HB3.out⟩
  · obtain ⟨cap, w', hcs, hb, hP, hcap, hw', _⟩ := convB (w.alloc (.cells #[.int .i64 6, .string ⟨x.toArray⟩, .int .i64 (a : Int)] 38)) ⟨x.toArray⟩ x.length (by show x.toArray.size = _; simp)
    have hP := (show ByAt w'.heap.size w' _ cap x by simpa using hP)
    have HB := Lib.hid (below_next B1 hb)
    have Q := Lib.hid (literal_any _ _ cap x (by omega) w' (HE.out _ HB.out) hP)
    have HF := Lib.hid (show formT 6 x = literalL x from rfl)
    generalize literalL x = z at *
    clear hP hb hw' B1
    go_enter Tryd.func28, Tryd.ntmps28
    go_wp2_with fail
    refine Q.out.mono ?_
    rintro e w2 ⟨A', c', rfl, hz, hb2⟩
    have HZ := Lib.hid hz
    have HB2 := Lib.hid (below_next HB.out hb2)
    clear hz hb2 Q hcs
    go_wp2_with fail
    go_ret
    exact ⟨A', c', by rw [HF.out]; rfl, by rw [HF.out]; exact HZ.out, HB2.out⟩

theorem joinT_snoc (ts : List Tok) (k : Nat) (h : k < ts.length) : joinT (ts.take (k + 1)) = joinT (ts.take k) ++ formT ts[k].kind ts[k].text := by
  rw [List.take_succ_eq_append_getElem h]
  unfold joinT
  rw [List.flatMap_append]
  simp
theorem joinT_le (ts : List Tok) (k : Nat) (h : k < ts.length) : (joinT (ts.take k)).length + (formT ts[k].kind ts[k].text).length ≤ (joinT ts).length := by
  have h1 : joinT ts = joinT (ts.take (k + 1)) ++ joinT (ts.drop (k + 1)) := by
    unfold joinT
    rw [← List.flatMap_append, List.take_append_drop]
  rw [h1, joinT_snoc ts k h, List.length_append, List.length_append]
  omega

set_option maxRecDepth 100000 in
set_option maxHeartbeats 4000000 in
theorem join_any (A : Option Addr) (c n : Nat) (ts : List Tok) (hn : ts.length = n) (hl : n ≤ 1000000) (hj : (joinT ts).length ≤ 1000000) (ht : ∀ t ∈ ts, t.kind ≤ 6 ∧ t.text.length ≤ 400000) (w : World) (henv : Env w) (hS : SlAt encT 3 w A ts) :
    Calls Tryd.prog 15 #[.slice A n c] w fun e w' => ∃ A' c', e = .returned (.slice A' (joinT ts).length c') ∧ ByAt w'.heap.size w' A' c' (joinT ts) ∧ Below w.heap.size w w' := by
  obtain ⟨i0, hi, hz0, hz1, hz2⟩ := info_parts infoByte
  have HE := Lib.hid (fun w1 (hB : Below w.heap.size w w1) => henv.below hB)
  have HS := Lib.hid hS
  have HT := Lib.hid ht
  have HN := Lib.hid hn
  obtain ⟨N, hN⟩ : ∃ N, (joinT ts).length = N := ⟨_, rfl⟩
  have hN1 : N ≤ 1000000 := by omega
  have HNN := Lib.hid hN
  clear henv hS ht hn hN hj
  go_enter Tryd.func15, Tryd.ntmps15
  go_wp2_with fail
  go_loopw [3, 8] (fun v i wr => ∃ k : Nat, k ≤ n ∧ i = .int .i64 (k : Int) ∧ Hid (wr.ownsRow w.heap.size 5 1 v (joinT (ts.take k)).length (flatL encB (joinT (ts.take k)))) ∧ Hid (Below w.heap.size w wr)) (fun _ i _ => n - (intOf i).toNat)
  case atStart => exact ⟨0, Nat.zero_le _, rfl, World.ownsRow_nil _ _ _ _, Below.refl _ _⟩
  case round =>
    obtain ⟨k, hk, rfl, hO, hB⟩ := hrel
    by_cases hlt : k < n
    · have hlf : k < ts.length := by rw [HN.out]; exact hlt
      obtain ⟨b, off, rfl, hb, e0, e1, e2⟩ := tk_at (HS.out.below hB.out) hlf
      have hle := joinT_le ts k hlf
      rw [HNN.out] at hle
      have htk := HT.out _ (List.getElem_mem hlf)
      have hb2 := below_al wr (.cells #[.int .i64 (ts[k].kind : Int), .string ⟨ts[k].text.toArray⟩, .int .i64 (ts[k].at_ : Int)] 38)
      have hBz := hB.out.size
      have FM := Lib.hid (form_any ts[k] htk.1 htk.2 _ (HE.out _ (hB.out.trans (hb2.mono hBz))))
      have HJ := Lib.hid (joinT_snoc ts k hlf)
      have HB2 := Lib.hid hb2
      clear htk hb2
      generalize ts[k].kind = kd at *
      generalize ts[k].text = tx at *
      generalize ts[k].at_ = ta at *
      generalize formT kd tx = X at *
      generalize joinT (ts.take k) = Y at *
      go_wp2_with fail
      refine FM.out.mono ?_
      rintro e w2 ⟨A2, c2, rfl, hX, hb2⟩
      have hb3 := below_next HB2.out hb2
      have HO2 := Lib.hid (own_below hO.out hb3)
      have HB3 := Lib.hid (hB.out.trans (hb3.mono hBz))
      have hz := HB3.out.size
      have HX := Lib.hid hX.sl
      clear hX hb2 hb3 FM HB2
      go_wp2_with (at_builtin; refine wpList_append_sl _ rfl (.tmp 12) (.tmp 14) 22 rfl w.heap.size 5 i0 _ 1 Tryd.underlying22 hi hz0 hz1 hz2 rfl (by decide) _ Y.length (flatL encB Y) rfl HO2.out A2 X c2 rfl encB_len HX.out (one_flatB _) (by simp only [maxLen]; omega) (by omega) hz ?_; intro v9 w9 hv9 hg9; have R4 := Lib.hid hv9; have R3 := Lib.hid (HB3.out.grown hg9 hz (fun j hj => (hO.out.lt j hj).1)); clear hv9 hg9)
      go_roundw
      case rel => exact ⟨k + 1, by omega, by go_num, by rw [HJ.out, List.length_append, flatL_append]; exact R4.out, R3⟩
      case measure => simp [intOf]; omega
    · obtain rfl : k = n := by omega
      have HTK := Lib.hid (show ts.take k = ts by rw [← HN.out, List.take_length])
      obtain ⟨A9, c9, hv⟩ := own_any hO.out
      subst hv
      have HBY : Hid (ByAt wr.heap.size wr A9 c9 (joinT ts)) := Lib.hid (by
        have := hO.out
        rw [HTK.out] at this
        exact ByAt.of_own this)
      go_wp2_with fail
      go_ret
      exact ⟨A9, c9, by rw [HTK.out]; rfl, HBY.out, hB.out⟩
end Go.Proofs.YtpklpfncohdlhaaDoor
