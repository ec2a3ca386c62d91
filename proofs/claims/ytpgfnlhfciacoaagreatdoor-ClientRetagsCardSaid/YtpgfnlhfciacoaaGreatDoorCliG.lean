/- client: Retag; slices.Clone, bytes.Clone. -/
import Derived.Test.YtpgfnlhfciacoaaGreatDoorRds
import Derived.Test.YtpgfnlhfciacoaaGreatDoorGq
import Derived.Test.YtpgfnlhfciacoaaGreatDoorText8
import Derived.Test.YtpgfnlhfciacoaaGreatDoorGb
import Derived.IntWalk
import Derived.Lib.LazyBuf
namespace Go.Proofs.YtpgfnlhfciacoaaGreatDoor
open Go.RowKit
open Go.Lib hiding intOf

theorem one_flatRg (l : List R) : ∀ u ∈ flatL encR l, u.oneCell' = true := by
  intro u hu
  unfold flatL at hu
  obtain ⟨r, _, hr⟩ := List.mem_flatMap.1 hu
  simp [encR] at hr
  rcases hr with rfl | rfl <;> rfl
theorem encR_len2 (r : R) : (encR r).length = 2 := rfl
theorem newS_own {w : World} {base n : Nat} {T : TypeId} {sz : Nat} {A : Option Addr} {c : Nat} {xs : List Value} (h : w.ownsRow base T sz (.slice A n c) n xs) : NewS base (.slice A n c) := by
  intro b off s n' k' e
  rcases h.2 with ⟨h0, _⟩ | ⟨g, cap, cur, h0, h1, _⟩
  · rw [h0] at e; cases e
  · rw [h0] at e
    injection e with e1
    injection e1 with e1
    injection e1 with e1 e2 e3
    omega

set_option maxRecDepth 100000 in
set_option maxHeartbeats 1000000 in
theorem cloneR_any (A : Option Addr) (c n : Nat) (l : List R) (hn : l.length = n) (hl : n ≤ 1000000) (w : World) (hS : SlAt encR 2 w A l) :
    Calls Tryz.prog 37 #[.slice A n c] w fun e w' => ∃ A' c', e = .returned (.slice A' n c') ∧ SlAt encR 2 w' A' l ∧ NewS w.heap.size (.slice A' n c') ∧ Below w.heap.size w w' := by
  obtain ⟨i0, hi, hz0, hz1, hz2⟩ := info_parts infoR
  have q22 := fun (w : World) (a : Option Addr) (l c : Nat) => run_eql_slice_nil (P := Tryz.prog) w 22 50 a l c Tryz.underlying22
  rcases A with _ | ad
  · obtain rfl : l = [] := by
      rcases hS with h | ⟨b, off, hA, _⟩
      · exact h
      · cases hA
    obtain rfl : n = 0 := hn.symm
    clear hS hl hn
    go_enter Tryz.func37, Tryz.ntmps37
    go_wp2_with fail
    go_ret
    exact ⟨none, 0, rfl, .inl rfl, fun b off s n k e => (by cases e), Below.refl _ _⟩
  · have HS := Lib.hid (hS.below (below_al w (.cells #[] 50)))
    have HOE := Lib.hid (own_empty (sz := 2) (heap_alloc_new w (.cells #[] 50)) (Nat.le_refl _))
    have H63 := Lib.hid (show 0 + l.length ≤ maxLen by unfold maxLen; omega)
    have HBY := Lib.hid (show (0 + l.length) * 8 ≤ 140737488355328 by omega)
    have HB0 := Lib.hid (below_al w (.cells #[] 50))
    have HSZ := Lib.hid HB0.out.size
    subst hn
    clear hS hl
    go_enter Tryz.func37, Tryz.ntmps37
    go_wp2_with (at_builtin; refine wpList_append_sl _ rfl _ _ 22 rfl w.heap.size 50 i0 _ 8 Tryz.underlying22 hi hz0 hz1 hz2 rfl (by decide) _ 0 [] rfl HOE.out (some ad) l c rfl encR_len2 HS.out (one_flatRg l) H63.out HBY.out HSZ.out ?_; intro v2 w2 hown2 hg2)
    rw [Nat.zero_add, List.nil_append] at hown2
    obtain ⟨A2, c2, rfl⟩ := own_any hown2
    have HB2 := Lib.hid (HB0.out.grown hg2 HSZ.out (fun kk hkk => (HOE.out.lt kk hkk).1))
    have HO := Lib.hid hown2
    clear hown2 hg2
    go_ret
    exact ⟨A2, c2, rfl, SlAt.of_own encR_len2 HO.out, newS_own HO.out, HB2.out⟩

set_option maxRecDepth 100000 in
set_option maxHeartbeats 1000000 in
theorem cloneB_any (B : Nat) (A : Option Addr) (c n : Nat) (l : List UInt8) (hn : l.length = n) (hl : n ≤ 1000000) (w : World) (hS : ByAt B w A c l) :
    Calls Tryz.prog 38 #[.slice A n c] w fun e w' => ∃ A' c', e = .returned (.slice A' n c') ∧ (SlAt encB 1 w' A' l ∧ n ≤ c') ∧ NewS w.heap.size (.slice A' n c') ∧ Below w.heap.size w w' := by
  obtain ⟨i0, hi, hz0, hz1, hz2⟩ := info_parts infoByte
  have q22 := fun (w : World) (a : Option Addr) (l c : Nat) => run_eql_slice_nil (P := Tryz.prog) w 24 5 a l c Tryz.underlying24
  rcases A with _ | ad
  · obtain rfl : l = [] := by
      rcases hS.lies with h | ⟨b, off, hA, _⟩
      · exact h
      · cases hA
    obtain rfl : n = 0 := hn.symm
    clear hS hl hn
    go_enter Tryz.func38, Tryz.ntmps38
    go_wp2_with fail
    go_ret
    exact ⟨none, 0, rfl, ⟨.inl rfl, Nat.le_refl _⟩, fun b off s n k e => (by cases e), Below.refl _ _⟩
  · have HS := Lib.hid (hS.here.below (below_al w (.cells #[] 5)))
    have HOE := Lib.hid (own_empty (sz := 1) (heap_alloc_new w (.cells #[] 5)) (Nat.le_refl _))
    have H63 := Lib.hid (show 0 + l.length ≤ maxLen by unfold maxLen; omega)
    have HBY := Lib.hid (show (0 + l.length) * 1 ≤ 140737488355328 by omega)
    have HB0 := Lib.hid (below_al w (.cells #[] 5))
    have HSZ := Lib.hid HB0.out.size
    subst hn
    clear hS hl
    go_enter Tryz.func38, Tryz.ntmps38
    go_wp2_with (at_builtin; refine wpList_append_sl _ rfl _ _ 24 rfl w.heap.size 5 i0 _ 1 Tryz.underlying24 hi hz0 hz1 hz2 rfl (by decide) _ 0 [] rfl HOE.out (some ad) l c rfl encB_len HS.out.sl (one_flatB l) H63.out HBY.out HSZ.out ?_; intro v2 w2 hown2 hg2)
    rw [Nat.zero_add, List.nil_append] at hown2
    obtain ⟨A2, c2, rfl⟩ := own_any hown2
    have HB2 := Lib.hid (HB0.out.grown hg2 HSZ.out (fun kk hkk => (HOE.out.lt kk hkk).1))
    have HO := Lib.hid hown2
    clear hown2 hg2
    go_ret
    exact ⟨A2, c2, rfl, ⟨SlAt.of_own encB_len HO.out, (ByAt.of_own HO.out).le⟩, newS_own HO.out, HB2.out⟩

/-- The commands with their new tags. -/
def rtC (pre : List UInt8) (i : Nat) (c : CI) : CI := { c with tag := pre ++ decDigits (i + 1) }
def RtL (pre : List UInt8) (xs ys : List CX) : Prop := ∀ i y, ys[i]? = some y → ∃ x, xs[i]? = some x ∧ y.c = rtC pre i x.c
theorem RtL.snoc {pre : List UInt8} {xs ys : List CX} (h : RtL pre xs ys) {x y : CX} (hx : xs[ys.length]? = some x) (hy : y.c = rtC pre ys.length x.c) : RtL pre xs (ys ++ [y]) := by
  intro i z hz
  by_cases hi : i < ys.length
  · rw [List.getElem?_append_left hi] at hz
    exact h i z hz
  · have hle := (List.getElem?_eq_some_iff.1 hz).1
    rw [List.length_append, List.length_singleton] at hle
    obtain rfl : i = ys.length := by omega
    rw [List.getElem?_append_right (Nat.le_refl _), Nat.sub_self] at hz
    obtain rfl : y = z := by simpa using hz
    exact ⟨x, hx, hy⟩
theorem infoC8g : (Tryz.prog.info? 26).map (fun i => (i.zero, i.size, i.bytes)) = some (some (.agg #[.string ⟨#[]⟩, .int .i64 0, .string ⟨#[]⟩, .slice none 0 0, .int .i64 0, .int .i64 0, .bool false, .int .u8 0, .slice none 0 0]), 9, 112) := by kernel_rfl
theorem slAt_oneXg (w : World) (x : CX) (T : TypeId) : SlAt encX 9 (w.alloc (.cells (encX x).toArray T)) (some ⟨w.heap.size, 0, none⟩) [x] := by
  refine .inr ⟨w.heap.size, 0, rfl, by simp, fun j y hj i u hi => ?_⟩
  have hj0 : j = 0 := by
    have := (List.getElem?_eq_some_iff.1 hj).1
    simpa using this
  subst hj0
  obtain rfl : x = y := by simpa using hj
  rw [Joins.cell_alloc_mark_at w _ _ _ _ _ rfl]
  simpa using hi

set_option maxRecDepth 100000 in
set_option maxHeartbeats 4000000 in
theorem cretag_any (pre : List UInt8) (hp : pre.length ≤ 1000) (xs : List CX) (A : Option Addr) (c n : Nat) (hn : xs.length = n) (hl : n ≤ 100) (hsm : ∀ x ∈ xs, x.c.set.length ≤ 100000 ∧ x.c.data.length ≤ 100000) (w : World) (he : Env w) (hS : XsAt w A xs) :
    Calls Tryz.prog 24 #[.string ⟨pre.toArray⟩, .slice A n c] w fun e w' => ∃ ys A' c', e = .returned (.slice A' n c') ∧ ys.length = n ∧ RtL pre xs ys ∧ XsAt w' A' ys ∧ Below w.heap.size w w' := by
  obtain ⟨i0, hi, hz0, hz1, hz2⟩ := info_parts infoC8g
  have HS := Lib.hid hS
  have HN := Lib.hid hn
  have HE := Lib.hid he
  have HSM := Lib.hid hsm
  have hpz : (ByteArray.mk pre.toArray).size ≤ 1000 := by rw [bsz]; exact hp
  have HP := Lib.hid (show (ByteArray.mk pre.toArray) = ⟨pre.toArray⟩ from rfl)
  clear hS hn he hsm hp
  go_enter Tryz.func24, Tryz.ntmps24
  go_wp2_with fail
  go_loopw [5, 10] (fun v i wr => ∃ (k : Nat) (Ao : Option Addr) (co : Nat) (ys : List CX), k ≤ n ∧ i = .int .i64 (k : Int) ∧ v = .slice Ao k co ∧ Hid (ys.length = k) ∧ Hid (RtL pre xs ys) ∧ Hid (RowX w.heap.size wr (.slice Ao k co) ys) ∧ Hid (Below w.heap.size w wr)) (fun _ i _ => n - (intOf i).toNat)
  case atStart => exact ⟨0, none, 0, [], Nat.zero_le _, rfl, rfl, Lib.hid rfl, Lib.hid (fun i y hy => by simp at hy), Lib.hid (RowX.nil _ _), Lib.hid (Below.refl _ _)⟩
  case round =>
    obtain ⟨k, Ao, co, ys, hk, rfl, rfl, hYL, hRT, hO, hB⟩ := hrel
    by_cases hlt : k < n
    · have hlx : k < xs.length := by rw [HN.out]; exact hlt
      obtain ⟨b, off, rfl, _, c0, c1, c2, c3, c4, c5, c6, c7, c8⟩ := (HS.out.below hB.out).at hlx
      have hk0 : (0 : Int) ≤ (k : Int) := by omega
      have hk1 : (k : Int) < (n : Int) := by omega
      have EA := Lib.hid ((HS.out.below hB.out).each xs[k] (List.getElem_mem hlx))
      have SM := Lib.hid (HSM.out xs[k] (List.getElem_mem hlx))
      have HXK := Lib.hid (List.getElem?_eq_getElem hlx)
      generalize xs[k] = x at *
      obtain ⟨⟨tag, kind, mbox, set, items, mode, silent, flags, data⟩, A1, A2, j1, j2⟩ := x
      simp only at c0 c1 c2 c3 c4 c5 c6 c7 c8 EA SM
      have SE := Lib.hid EA.out.1
      have DE := Lib.hid EA.out.2
      have HSL := Lib.hid SM.out.1
      have HDL := Lib.hid SM.out.2
      have HAL := Lib.hid (below_al wr (.cells #[.string ⟨tag.toArray⟩, .int .i64 kind, .string ⟨mbox.toArray⟩, .slice A1 set.length j1, .int .i64 items, .int .i64 mode, .bool silent, .int .u8 flags, .slice A2 data.length j2] 26))
      have HBK := Lib.hid (heap_alloc_new wr (.cells #[.string ⟨tag.toArray⟩, .int .i64 kind, .string ⟨mbox.toArray⟩, .slice A1 set.length j1, .int .i64 items, .int .i64 mode, .bool silent, .int .u8 flags, .slice A2 data.length j2] 26))
      have HZ3 : Hid (_ = wr.heap.size + 1) := Lib.hid (World.size_alloc wr (.cells #[.string ⟨tag.toArray⟩, .int .i64 kind, .string ⟨mbox.toArray⟩, .slice A1 set.length j1, .int .i64 items, .int .i64 mode, .bool silent, .int .u8 flags, .slice A2 data.length j2] 26))
      obtain ⟨ns, hns⟩ : ∃ ns, set.length = ns := ⟨_, rfl⟩
      obtain ⟨nd, hnd⟩ : ∃ nd, data.length = nd := ⟨_, rfl⟩
      have HNS := Lib.hid hns
      have HND := Lib.hid hnd
      rw [hns] at c3 HAL HBK HZ3 HSL
      rw [hnd] at c8 HAL HBK HZ3 HDL
      clear EA SM hns hnd
      go_upto_region 5 with (fail)
      generalize wr.alloc (.cells #[.string ⟨tag.toArray⟩, .int .i64 kind, .string ⟨mbox.toArray⟩, .slice A1 ns j1, .int .i64 items, .int .i64 mode, .bool silent, .int .u8 flags, .slice A2 nd j2] 26) = W3 at *
      clear c0 c1 c2 c3 c4 c5 c6 c7 c8
      have hwu : IntKind.u32.wrap ((k : Int) + 1) = (k : Int) + 1 := IntWalk.u32_in _ (by omega)
      have hwi : IntKind.i64.wrap ((k : Int) + 1) = (k : Int) + 1 := IntWalk.i64_in _ (by omega)
      have DC := decimal_any (k + 1) (by omega) W3 ((HE.out.below hB.out).below HAL.out)
      rw [Int.natCast_add] at DC
      have DC := Lib.hid DC
      have hdz : (ByteArray.mk (decDigits (k + 1)).toArray).size ≤ 10 := by rw [bsz]; exact dec_len (by omega)
      have HTG := Lib.hid (show ByteArray.mk pre.toArray ++ ByteArray.mk (decDigits (k + 1)).toArray = ByteArray.mk (pre ++ decDigits (k + 1)).toArray from bapp _ _)
      go_wp2_with fail
      refine DC.out.mono ?_
      rintro e w4 ⟨rfl, hb4⟩
      have HB4 := Lib.hid (below_next HAL.out hb4)
      have HR4 := Lib.hid ((hb4.block wr.heap.size (by have := HZ3.out; omega)).trans HBK.out)
      have HZ4 := Lib.hid (show wr.heap.size < w4.heap.size by have := HZ3.out; have := hb4.size; omega)
      obtain ⟨x0, x1, x2, x3, x4, x5, x6, x7, x8⟩ := cells9 HR4.out
      have f0 := Joins.unfrozen_of_block HR4.out 0
      clear hb4 DC HAL HBK HZ3
      generalize ByteArray.mk (decDigits (k + 1)).toArray = db at *
      go_upto_region 6 with (fail)
      rw [HTG.out]
      have HR5 := Lib.hid (Joins.block_setCell (i := 0) HR4.out (.string (ByteArray.mk (pre ++ decDigits (k + 1)).toArray)))
      have HB5 := Lib.hid (HB4.out.setCell (p := ⟨wr.heap.size, 0, none⟩) (Nat.le_refl _) (.string (ByteArray.mk (pre ++ decDigits (k + 1)).toArray)))
      have HZ5 := Lib.hid (show wr.heap.size < (w4.setCell ⟨wr.heap.size, 0, none⟩ (.string (ByteArray.mk (pre ++ decDigits (k + 1)).toArray))).heap.size by simpa using HZ4.out)
      generalize w4.setCell ⟨wr.heap.size, 0, none⟩ (.string (ByteArray.mk (pre ++ decDigits (k + 1)).toArray)) = W5 at *
      clear x0 x1 x2 x3 x4 x5 x6 x7 x8 f0 HR4 HB4 HZ4 HTG
      obtain ⟨x0, x1, x2, x3, x4, x5, x6, x7, x8⟩ := cells9 HR5.out
      have CR := Lib.hid (cloneR_any A1 j1 ns set HNS.out (by have := HSL.out; omega) W5 (SE.out.below HB5.out))
      go_wp2_with fail
      refine CR.out.mono ?_
      rintro e w6 ⟨A3, j3, rfl, s3, n3, hb6⟩
      have HB6 := Lib.hid (below_next HB5.out hb6)
      have HR6 := Lib.hid ((hb6.block wr.heap.size HZ5.out).trans HR5.out)
      have HZ6 := Lib.hid (Nat.lt_of_lt_of_le HZ5.out hb6.size)
      have N3 := Lib.hid n3
      have S3 := Lib.hid s3
      have HW5 := Lib.hid HB5.out.size
      clear x0 x1 x2 x3 x4 x5 x6 x7 x8 hb6 n3 s3 CR HR5
      obtain ⟨x0, x1, x2, x3, x4, x5, x6, x7, x8⟩ := cells9 HR6.out
      have f3 := Joins.unfrozen_of_block HR6.out 3
      go_upto_region 7 with (fail)
      have HR7 := Lib.hid (Joins.block_setCell (i := 3) HR6.out (.slice A3 ns j3))
      have HB7 := Lib.hid (HB6.out.setCell (p := ⟨wr.heap.size, 3, none⟩) (Nat.le_refl _) (.slice A3 ns j3))
      have HZ7 := Lib.hid (show wr.heap.size < (w6.setCell ⟨wr.heap.size, 3, none⟩ (.slice A3 ns j3)).heap.size by simpa using HZ6.out)
      have S7 := Lib.hid (S3.out.kept (r := some wr.heap.size) (by
        by_cases h0 : set = []
        · exact .inl h0
        · exact .inr (N3.out.off (by have := HZ5.out; omega))) (show w6.grownBy (w6.setCell ⟨wr.heap.size, 3, none⟩ (.slice A3 ns j3)) (some wr.heap.size) from grown_set (World.grownBy.refl _ _) 3 _))
      generalize w6.setCell ⟨wr.heap.size, 3, none⟩ (.slice A3 ns j3) = W7 at *
      clear x0 x1 x2 x3 x4 x5 x6 x7 x8 f3 HR6 HB6 HZ6 S3
      obtain ⟨x0, x1, x2, x3, x4, x5, x6, x7, x8⟩ := cells9 HR7.out
      have CB := Lib.hid (cloneB_any wr.heap.size A2 j2 nd data HND.out (by have := HDL.out; omega) W7 (DE.out.below HB7.out))
      go_wp2_with fail
      refine CB.out.mono ?_
      rintro e w8 ⟨A4, j4, rfl, ⟨s4, l4⟩, n4, hb8⟩
      have HB8 := Lib.hid (below_next HB7.out hb8)
      have HR8 := Lib.hid ((hb8.block wr.heap.size HZ7.out).trans HR7.out)
      have HZ8 := Lib.hid (Nat.lt_of_lt_of_le HZ7.out hb8.size)
      have N4 := Lib.hid n4
      have S4 := Lib.hid s4
      have L4 := Lib.hid l4
      have S8 := Lib.hid (S7.out.below hb8)
      clear x0 x1 x2 x3 x4 x5 x6 x7 x8 hb8 n4 s4 l4 CB HR7 S7
      obtain ⟨x0, x1, x2, x3, x4, x5, x6, x7, x8⟩ := cells9 HR8.out
      have f8 := Joins.unfrozen_of_block HR8.out 8
      go_upto_region 8 with (fail)
      have HR9 := Lib.hid (Joins.block_setCell (i := 8) HR8.out (.slice A4 nd j4))
      have HB9 := Lib.hid (HB8.out.setCell (p := ⟨wr.heap.size, 8, none⟩) (Nat.le_refl _) (.slice A4 nd j4))
      have GR := Lib.hid (show w8.grownBy (w8.setCell ⟨wr.heap.size, 8, none⟩ (.slice A4 nd j4)) (some wr.heap.size) from grown_set (World.grownBy.refl _ _) 8 _)
      have S9 := Lib.hid (S8.out.kept (by
        by_cases h0 : set = []
        · exact .inl h0
        · exact .inr (N3.out.off (by have := HZ5.out; omega))) GR.out)
      have D9 := Lib.hid (S4.out.kept (by
        by_cases h0 : data = []
        · exact .inl h0
        · exact .inr (N4.out.off (by have := HZ7.out; omega))) GR.out)
      have HN3 := Lib.hid (show NewS wr.heap.size (.slice A3 ns j3) from fun b off s n k e => Nat.le_trans (Nat.le_of_lt HZ5.out) (N3.out b off s n k e))
      have HN4 := Lib.hid (show NewS wr.heap.size (.slice A4 nd j4) from fun b off s n k e => Nat.le_trans (Nat.le_of_lt HZ7.out) (N4.out b off s n k e))
      generalize w8.setCell ⟨wr.heap.size, 8, none⟩ (.slice A4 nd j4) = W9 at *
      clear x0 x1 x2 x3 x4 x5 x6 x7 x8 f8 HR8 HB8 HZ8 S8 S4 GR N3 N4 HZ5 HZ7 HW5
      obtain ⟨x0, x1, x2, x3, x4, x5, x6, x7, x8⟩ := cells9 HR9.out
      obtain ⟨tg, htg⟩ : ∃ tg, pre ++ decDigits (k + 1) = tg := ⟨_, rfl⟩
      have HTG := Lib.hid htg
      rw [htg] at x0 HR9
      have HA9 := Lib.hid (below_al W9 (.cells #[.string ⟨tg.toArray⟩, .int .i64 kind, .string ⟨mbox.toArray⟩, .slice A3 ns j3, .int .i64 items, .int .i64 mode, .bool silent, .int .u8 flags, .slice A4 nd j4] 26))
      have HWW := Lib.hid (below_next HB9.out HA9.out)
      have HO4 := Lib.hid (hO.out.below HWW.out).own
      rw [hYL.out] at HO4
      have hsx := slAt_oneXg W9 ⟨⟨tg, kind, mbox, set, items, mode, silent, flags, data⟩, A3, A4, j3, j4⟩ 26
      have hex : (encX ⟨⟨tg, kind, mbox, set, items, mode, silent, flags, data⟩, A3, A4, j3, j4⟩).toArray = #[.string ⟨tg.toArray⟩, .int .i64 kind, .string ⟨mbox.toArray⟩, .slice A3 ns j3, .int .i64 items, .int .i64 mode, .bool silent, .int .u8 flags, .slice A4 nd j4] := by simp [encX, HNS.out, HND.out]
      rw [hex] at hsx
      have HSX := Lib.hid hsx
      have HSZ := Lib.hid (below_next hB.out HWW.out).size
      have HB10 := Lib.hid (below_next hB.out HWW.out)
      have h63 : k + 1 ≤ maxLen := by unfold maxLen; omega
      have hbyt : (k + 1) * 112 ≤ 140737488355328 := by omega
      have H63 := Lib.hid h63
      have HBYT := Lib.hid hbyt
      clear h63 hbyt hsx hex htg
      go_wp2_with (at_builtin; refine wpList_append_slf _ rfl _ _ 33 rfl w.heap.size 26 i0 _ 112 Tryz.underlying33 hi hz0 hz1 hz2 rfl (by decide) _ k _ rfl HO4.out _ [(⟨⟨tg, kind, mbox, set, items, mode, silent, flags, data⟩, A3, A4, j3, j4⟩ : CX)] _ rfl encX_len HSX.out (one_flatX _) H63.out HBYT.out HSZ.out ?_; intro vv w3 hown3 hg3 hf3)
      obtain ⟨A5, c5, rfl⟩ := own_any hown3
      have RX := Lib.hid (hO.out.snoc HWW.out (x := ⟨⟨tg, kind, mbox, set, items, mode, silent, flags, data⟩, A3, A4, j3, j4⟩) (S9.out.below HA9.out) (D9.out.below HA9.out) (by have := L4.out; rw [← HND.out] at this; exact this) HN3.out HN4.out (by rw [hYL.out]; exact hown3) hg3 hf3)
      have HB11 := Lib.hid (HB10.out.grown hg3 HSZ.out (fun kk hkk => (HO4.out.lt kk hkk).1))
      have HX1 := Lib.hid (show (ys ++ [(⟨⟨tg, kind, mbox, set, items, mode, silent, flags, data⟩, A3, A4, j3, j4⟩ : CX)]).length = k + 1 by rw [List.length_append, hYL.out]; rfl)
      have HX2 := Lib.hid (hRT.out.snoc (y := ⟨⟨tg, kind, mbox, set, items, mode, silent, flags, data⟩, A3, A4, j3, j4⟩) (x := ⟨⟨tag, kind, mbox, set, items, mode, silent, flags, data⟩, A1, A2, j1, j2⟩) (by rw [hYL.out]; exact HXK.out) (by rw [hYL.out, ← HTG.out]; rfl))
      clear hown3 hg3 hf3
      go_roundw
      case rel => exact ⟨k + 1, A5, c5, _, by omega, by go_num, rfl, HX1, HX2, RX, HB11⟩
      case measure => simp [intOf]; omega
    · obtain rfl : k = n := by omega
      go_wp2_with fail
      go_ret
      exact ⟨ys, Ao, co, rfl, hYL.out, hRT.out, hO.out.xsAt hYL.out.symm, hB.out⟩
end Go.Proofs.YtpgfnlhfciacoaaGreatDoor
