/- reply: responses in memory of their own. -/
import Derived.Test.YtpoejnajnaolpaaGreatDoorRpAl
import Derived.Test.YtpoejnajnaolpaaGreatDoorGe
namespace Go.Proofs.YtpoejnajnaolpaaGreatDoor
open Go.RowKit

set_option maxRecDepth 100000 in
set_option maxHeartbeats 1000000 in
theorem cloneRs_any (xs : List RX) (A : Option Addr) (c n : Nat) (hn : xs.length = n) (hl : n ≤ 1000000) (w : World) (hS : RsAt w A xs) :
    Calls Tryz.prog 52 #[.slice A n c] w fun e w' => ∃ A' c', e = .returned (.slice A' n c') ∧ w'.ownsRow w.heap.size 27 10 (.slice A' n c') n (flatL encRx xs) ∧ Below w.heap.size w w' := by
  obtain ⟨i0, hi, hz0, hz1, hz2⟩ := info_parts infoRs
  have q22 := fun (w : World) (a : Option Addr) (l c : Nat) => run_eql_slice_nil (P := Tryz.prog) w 32 27 a l c Tryz.underlying32
  rcases A with _ | ad
  · obtain rfl : xs = [] := by
      rcases hS.sl with h | ⟨b, off, hA, _⟩
      · exact h
      · cases hA
    obtain rfl : n = 0 := hn.symm
    clear hS hl hn
    go_enter Tryz.func52, Tryz.ntmps52
    go_wp2_with fail
    go_ret
    exact ⟨none, 0, rfl, World.ownsRow_nil _ _ _ _, Below.refl _ _⟩
  · have HS := Lib.hid (hS.sl.below (below_al w (.cells #[] 27)))
    have HOE := Lib.hid (own_empty (sz := 10) (heap_alloc_new w (.cells #[] 27)) (Nat.le_refl _))
    have H63 := Lib.hid (show 0 + xs.length ≤ maxLen by unfold maxLen; omega)
    have HBY := Lib.hid (show (0 + xs.length) * 104 ≤ 140737488355328 by omega)
    have HB0 := Lib.hid (below_al w (.cells #[] 27))
    have HSZ := Lib.hid HB0.out.size
    subst hn
    clear hS hl
    go_enter Tryz.func52, Tryz.ntmps52
    go_wp2_with (at_builtin; refine wpList_append_sl _ rfl _ _ 32 rfl w.heap.size 27 i0 _ 104 Tryz.underlying32 hi hz0 hz1 hz2 rfl (by decide) _ 0 [] rfl HOE.out (some ad) xs c rfl encRx_len HS.out (one_flatR xs) H63.out HBY.out HSZ.out ?_; intro v2 w2 hown2 hg2)
    rw [Nat.zero_add, List.nil_append] at hown2
    obtain ⟨A2, c2, rfl⟩ := own_any hown2
    have HB2 := Lib.hid (HB0.out.grown hg2 HSZ.out (fun kk hkk => (HOE.out.lt kk hkk).1))
    have HO := Lib.hid hown2
    clear hown2 hg2
    go_ret
    exact ⟨A2, c2, rfl, HO.out, HB2.out⟩

theorem flat_set (A2 : Option Addr) (c2 : Nat) : ∀ (ys : List RX) (k : Nat) (h : k < ys.length), flatL encRx (ys.set k ⟨ys[k].r, A2, c2⟩) = (flatL encRx ys).set (k * 10 + 9) (.slice A2 ys[k].r.body.length c2)
  | [], k, h => by simp at h
  | y :: ys, 0, h => by
    show encRx ⟨y.r, A2, c2⟩ ++ flatL encRx ys = (encRx y ++ flatL encRx ys).set 9 _
    rw [List.set_append_left _ _ (by rw [encRx_len]; omega)]
    rfl
  | y :: ys, k + 1, h => by
    have hk : k < ys.length := by simpa using h
    have ih := flat_set A2 c2 ys k hk
    show encRx y ++ flatL encRx (ys.set k ⟨ys[k].r, A2, c2⟩) = (encRx y ++ flatL encRx ys).set ((k + 1) * 10 + 9) _
    rw [List.set_append_right _ _ (by rw [encRx_len]; omega), encRx_len, show (k + 1) * 10 + 9 - 10 = k * 10 + 9 by omega, ih]
    rfl
theorem map_set (A2 : Option Addr) (c2 : Nat) (ys : List RX) (k : Nat) (h : k < ys.length) : (ys.set k ⟨ys[k].r, A2, c2⟩).map (fun x => x.r) = ys.map fun x => x.r := by
  rw [List.map_set]
  apply List.ext_getElem
  · simp
  · intro i h1 h2
    rw [List.getElem_set]
    split
    · subst_vars
      simp
    · rfl

set_option maxRecDepth 100000 in
set_option maxHeartbeats 4000000 in
theorem copies_any (xs : List RX) (A : Option Addr) (c n : Nat) (hn : xs.length = n) (hl : n ≤ 1000) (hsm : ∀ x ∈ xs, x.r.body.length ≤ 1000000) (w : World) (hS : RsAt w A xs) :
    Calls Tryz.prog 35 #[.slice A n c] w fun e w' => ∃ ys A' c', e = .returned (.slice A' n c') ∧ ys.map (fun x => x.r) = xs.map (fun x => x.r) ∧ RsAt w' A' ys ∧ Below w.heap.size w w' := by
  have CL := Lib.hid (cloneRs_any xs A c n hn (by omega) w hS)
  have HS := Lib.hid hS
  have HN := Lib.hid hn
  have HSM := Lib.hid hsm
  clear hS hn hsm
  go_enter Tryz.func35, Tryz.ntmps35
  go_wp2_with fail
  refine CL.out.mono ?_
  rintro e w1 ⟨A1, c1, rfl, ho, hb1⟩
  have HR1 := Lib.hid (show RowR w.heap.size w1 (.slice A1 n c1) xs from by
    have hR0 : RowR w.heap.size w1 (.slice A1 n c1) xs := by
      refine ⟨by rw [HN.out]; exact ho, fun x hx => ?_⟩
      have hby := HS.out.each x hx
      refine ⟨(hby.below hb1).here.sl, hby.le, ?_⟩
      rcases hby.lies with h0 | ⟨b, off, hA', hlt, _⟩
      · exact .inl h0
      · refine .inr fun b' off' s e h2 => ?_
        rw [hA'] at e
        injection e with e
        injection e with e1
        have h3 := (ho.lt b' h2.symm).1
        omega
    exact hR0)
  have HB1 := Lib.hid hb1
  clear ho hb1 CL HS
  go_wp2_with fail
  go_loopw [9] (fun i wr => ∃ (k : Nat) (ys : List RX), k ≤ n ∧ i = .int .i64 (k : Int) ∧ Hid (ys.length = n) ∧ Hid (ys.map (fun x => x.r) = xs.map (fun x => x.r)) ∧ Hid (RowR w.heap.size wr (.slice A1 n c1) ys) ∧ Hid (Below w.heap.size w wr)) (fun i _ => n - (intOf i).toNat)
  case atStart => exact ⟨0, xs, Nat.zero_le _, rfl, HN, Lib.hid rfl, HR1, HB1⟩
  case round =>
    clear HR1 HB1
    obtain ⟨k, ys, hk, rfl, hYL, hYM, hO, hB⟩ := hrel
    by_cases hlt : k < n
    · have hly : k < ys.length := by rw [hYL.out]; exact hlt
      have hk0 : (0 : Int) ≤ (k : Int) := by omega
      have hk1 : (k : Int) < (n : Int) := by omega
      have hown := hO.out.own
      rw [hYL.out] at hown
      obtain ⟨g, rfl⟩ : ∃ g, A1 = some ⟨g, 0, none⟩ := by
        rcases hown.2 with ⟨_, h0⟩ | ⟨g, cap, cur, h0, _⟩
        · omega
        · injection h0 with h0
          exact ⟨g, h0⟩
      have hc9 : wr.cell? ⟨g, k * 10 + 9, none⟩ = some (.slice ys[k].A ys[k].r.body.length ys[k].k) := by
        rw [hown.cellAt (k * 10 + 9) (by omega)]
        exact flatL_at encRx_len ys k _ (List.getElem?_eq_getElem hly) 9 _ rfl
      have EA := Lib.hid (hO.out.each _ (List.getElem_mem hly))
      have hbl : ys[k].r.body.length ≤ 1000000 := by
        have h1 : ys[k].r ∈ ys.map (fun x => x.r) := List.mem_map.2 ⟨_, List.getElem_mem hly, rfl⟩
        rw [hYM.out] at h1
        obtain ⟨x, hx, e⟩ := List.mem_map.1 h1
        rw [← e]
        exact HSM.out x hx
      have CB := Lib.hid (clone9_any ys[k].A ys[k].k ys[k].r.body.length ys[k].r.body rfl hbl wr (ByAt.of_sl EA.out.d EA.out.l))
      have HGL := Lib.hid (hown.lt g rfl)
      have HFS := Lib.hid (fun A2 c2 => flat_set A2 c2 ys k hly)
      have HMS := Lib.hid (fun A2 c2 => (map_set A2 c2 ys k hly).trans hYM.out)
      have HSL := Lib.hid (fun A2 c2 => show (ys.set k ⟨ys[k].r, A2, c2⟩).length = n by rw [List.length_set]; exact hYL.out)
      have HME := Lib.hid (fun A2 c2 y (hy : y ∈ ys.set k ⟨ys[k].r, A2, c2⟩) => List.mem_or_eq_of_mem_set hy)
      obtain ⟨nb, hnb⟩ : ∃ nb, ys[k].r.body.length = nb := ⟨_, rfl⟩
      rw [hnb] at hc9 CB HFS
      have HNB := Lib.hid hnb
      generalize hr9 : ys[k].r = r at *
      generalize ys[k].A = Ay at *
      generalize ys[k].k = ky at *
      clear hnb hbl hown hr9
      go_wp2_with fail
      refine CB.out.mono ?_
      rintro e w2 ⟨A2, c2, rfl, ho2, hb2⟩
      have HO2 := Lib.hid (hO.out.below hb2)
      have hg2 := HO2.out.own
      rw [hYL.out] at hg2
      have hc2 : w2.cell? ⟨g, k * 10 + 9, none⟩ = some (.slice Ay nb ky) := (hb2.cell (p := ⟨g, k * 10 + 9, none⟩) HGL.out.2).trans hc9
      have f2 := hg2.frozenAt (k * 10 + 9)
      obtain ⟨hs1, hs2⟩ := hg2.stored (k * 10 + 9) (.slice A2 nb c2)
      have HR3 := Lib.hid (show RowR w.heap.size (w2.setCell ⟨g, k * 10 + 9, none⟩ (.slice A2 nb c2)) (.slice (some ⟨g, 0, none⟩) n c1) (ys.set k ⟨r, A2, c2⟩) from by
        refine ⟨by rw [HSL.out, HFS.out]; exact hs1, fun y hy => ?_⟩
        rcases HME.out A2 c2 y hy with hy | rfl
        · exact (HO2.out.each y hy).kept hs2 (.inl rfl)
        · have hnew := new_own ho2
          have hq : RowQ w2 (some g) ⟨r, A2, c2⟩ := by
            refine ⟨?_, ?_, .inr fun b off s e h2 => ?_⟩
            · have hby := ByAt.of_own (l := r.body) (by rw [HNB.out]; exact ho2)
              exact hby.sl
            · have hby := ByAt.of_own (l := r.body) (by rw [HNB.out]; exact ho2)
              exact hby.le
            · have h3 := hnew b off s e
              have h4 := HGL.out.2
              have := Option.some.inj h2
              omega
          exact hq.kept hs2 (.inl rfl))
      have HB3 := Lib.hid ((below_next hB.out hb2).setCell (p := ⟨g, k * 10 + 9, none⟩) HGL.out.1 (.slice A2 nb c2))
      have HYL3 := Lib.hid (HSL.out A2 c2)
      have HYM3 := Lib.hid (HMS.out A2 c2)
      clear hg2 hs1 hs2 ho2 hb2 hc9 HFS HMS HSL HME HO2
      go_wp2_with fail
      go_roundw
      case rel => exact ⟨k + 1, _, by omega, by go_num, HYL3, HYM3, HR3, HB3⟩
      case measure => simp [intOf]; omega
    · obtain rfl : k = n := by omega
      have HRA := Lib.hid (hO.out.rsAt hYL.out.symm)
      clear hO
      go_wp2_with fail
      go_ret
      exact ⟨ys, A1, c1, rfl, hYM.out, HRA.out, hB.out⟩

/-- The tagged ones. -/
def tgX (xs : List RX) : List RX := xs.filter fun x => x.r.kind == 9
theorem tgX_snoc {xs : List RX} {k : Nat} (h : k < xs.length) : tgX (xs.take (k + 1)) = tgX (xs.take k) ++ if (xs[k].r.kind == 9) = true then [xs[k]] else [] := by
  unfold tgX
  rw [List.take_succ_eq_append_getElem h, List.filter_append]
  congr 1
  cases hq : (xs[k].r.kind == 9) <;> simp [hq]
theorem RowR.off_low {base : Nat} {w : World} {v : Value} {xs : List RX} (h : RowR base w v xs) {A : Option Addr} {c : Nat} {l : List UInt8} (hA : ByAt base w A c l) : l = [] ∨ OffS v.ownBlock A := by
  rcases hA.lies with h0 | ⟨b, off, hA', hlt, _⟩
  · exact .inl h0
  · refine .inr fun b' off' s e h2 => ?_
    rw [hA'] at e
    injection e with e
    injection e with e1
    have h3 := (h.own.lt b' h2.symm).1
    omega

set_option maxRecDepth 100000 in
set_option maxHeartbeats 4000000 in
theorem tagged_any (xs : List RX) (A : Option Addr) (c n : Nat) (hn : xs.length = n) (hl : n ≤ 1000) (hsm : ∀ x ∈ xs, x.r.body.length ≤ 1000000) (w : World) (hS : RsAt w A xs) :
    Calls Tryz.prog 25 #[.slice A n c] w fun e w' => ∃ ys A' c' m, e = .returned (.slice A' m c') ∧ ys.length = m ∧ ys.map (fun x => x.r) = (tgX xs).map (fun x => x.r) ∧ RsAt w' A' ys ∧ Below w.heap.size w w' := by
  obtain ⟨i0, hi, hz0, hz1, hz2⟩ := info_parts infoRs
  have HS := Lib.hid hS
  have HN := Lib.hid hn
  have HSM := Lib.hid hsm
  clear hS hn hsm
  go_enter Tryz.func25, Tryz.ntmps25
  go_wp2_with fail
  go_loopw [3, 8] (fun v i wr => ∃ (k p : Nat) (Av : Option Addr) (cv : Nat), k ≤ n ∧ p ≤ k ∧ i = .int .i64 (k : Int) ∧ v = .slice Av p cv ∧ Hid ((tgX (xs.take k)).length = p) ∧ Hid (RowR w.heap.size wr (.slice Av p cv) (tgX (xs.take k))) ∧ Hid (Below w.heap.size w wr)) (fun _ i _ => n - (intOf i).toNat)
  case atStart => exact ⟨0, 0, none, 0, Nat.zero_le _, Nat.le_refl _, rfl, rfl, Lib.hid rfl, Lib.hid (RowR.nil _ _), Lib.hid (Below.refl _ _)⟩
  case round =>
    obtain ⟨k, p, Av, cv, hk, hpk, rfl, rfl, hX, hO, hB⟩ := hrel
    by_cases hlt : k < n
    · have hlx : k < xs.length := by rw [HN.out]; exact hlt
      obtain ⟨b, off, rfl, -, c0, c1, c2', c3', c4, c5, c6, c7, c8, c9⟩ := (HS.out.below hB.out).at hlx
      have hk0 : (0 : Int) ≤ (k : Int) := by omega
      have hk1 : (k : Int) < (n : Int) := by omega
      have hbyw := HS.out.each _ (List.getElem_mem hlx)
      have HOFF := Lib.hid (hO.out.off_low (hbyw.below hB.out))
      have HBX := Lib.hid (below_al wr (.cells (encRx xs[k]).toArray 27))
      have HBK := Lib.hid (heap_alloc_new wr (.cells (encRx xs[k]).toArray 27))
      have HBY := Lib.hid ((hbyw.below hB.out).here)
      have HST := Lib.hid (tgX_snoc hlx)
      have hxk : Hid (xs[k] = ⟨xs[k].r, xs[k].A, xs[k].k⟩) := Lib.hid rfl
      clear hbyw
      generalize xs[k].r = r at *
      generalize xs[k].A = Ar at *
      generalize xs[k].k = kr at *
      rw [hxk.out] at HST HBX HBK
      clear hxk
      unfold encRx at HBX HBK
      cases hq : (r.kind == 9) with
      | false =>
        have HX2 := Lib.hid (show tgX (xs.take (k + 1)) = tgX (xs.take k) by rw [HST.out]; simp [hq])
        have HO4 := Lib.hid (hO.out.below HBX.out)
        have HB5 := Lib.hid (below_next hB.out HBX.out)
        have HX3 := Lib.hid (show (tgX (xs.take (k + 1))).length = p by rw [HX2.out]; exact hX.out)
        rw [← HX2.out] at HO4
        clear HST HOFF
        go_wp2_with fail
        go_roundw
        case rel => exact ⟨k + 1, p, Av, cv, by omega, by omega, by go_num, rfl, HX3, HO4, HB5⟩
        case measure => simp [intOf]; omega
      | true =>
        have HX2 := Lib.hid (show tgX (xs.take (k + 1)) = tgX (xs.take k) ++ [⟨r, Ar, kr⟩] by rw [HST.out]; simp [hq])
        clear HST
        go_upto_region 6 with (fail)
        clear hq c0 c1 c2' c3' c4 c5 c6 c7 c8 c9
        generalize wr.alloc (.cells [.int .i64 r.kind, .int .u32 (r.n : Int), .string ⟨r.tag.toArray⟩, .int .i64 r.status, .string ⟨r.text.toArray⟩, .int .i64 r.items, .int .u8 (r.flags : Int), .int .u32 (r.uid : Int), .int .u32 (r.size : Int), .slice Ar r.body.length kr].toArray 27) = W3 at *
        have HWW := Lib.hid (below_next HBX.out (below_al W3 (.cells (encRx ⟨r, Ar, kr⟩).toArray 27)))
        have HO4 := Lib.hid (hO.out.below HWW.out).own
        rw [hX.out] at HO4
        have HSX := Lib.hid (rsAt_one ((HBY.out.below HBX.out).here)).sl
        have HB5 := Lib.hid (below_next hB.out HWW.out)
        have HSZ := Lib.hid HB5.out.size
        have HSD := Lib.hid ((HBY.out.below HWW.out).here.sl)
        obtain ⟨x0, x1, x2, x3, x4, x5, x6, x7, x8, x9⟩ := cells10 HBK.out
        have h63 : p + 1 ≤ maxLen := by unfold maxLen; omega
        have hbyt : (p + 1) * 104 ≤ 140737488355328 := by omega
        have H63 := Lib.hid h63
        have HBYT := Lib.hid hbyt
        clear h63 hbyt
        unfold encRx at HWW HO4 HSX HB5 HSZ HSD
        go_wp2_with (at_builtin; refine wpList_append_slf _ rfl _ _ 32 rfl w.heap.size 27 i0 _ 104 Tryz.underlying32 hi hz0 hz1 hz2 rfl (by decide) _ p _ rfl HO4.out _ [(⟨r, Ar, kr⟩ : RX)] _ rfl encRx_len HSX.out (one_flatR _) H63.out HBYT.out HSZ.out ?_; intro vv w5 hown3 hg3 hf3)
        obtain ⟨A6, c6', rfl⟩ := own_any hown3
        have RX' := Lib.hid (hO.out.snoc HWW.out (x := ⟨r, Ar, kr⟩) HSD.out HBY.out.le HOFF.out (by rw [hX.out]; exact hown3) hg3 hf3)
        rw [← HX2.out] at RX'
        have HX3 := Lib.hid (show (tgX (xs.take (k + 1))).length = p + 1 by rw [HX2.out, List.length_append, hX.out]; rfl)
        have HB6 := Lib.hid (HB5.out.grown hg3 HSZ.out (fun kk hkk => (HO4.out.lt kk hkk).1))
        clear hown3 hg3 hf3
        go_roundw
        case rel => exact ⟨k + 1, p + 1, A6, c6', by omega, by omega, by go_num, rfl, HX3, RX', HB6⟩
        case measure => simp [intOf]; omega
    · obtain rfl : k = n := by omega
      have ht : tgX (xs.take k) = tgX xs := by rw [List.take_of_length_le (by rw [HN.out]; exact Nat.le_refl _)]
      have HRA := Lib.hid (show RsAt wr Av (tgX xs) by rw [← ht]; exact hO.out.rsAt hX.out.symm)
      have HXL := Lib.hid (show (tgX xs).length = p by rw [← ht]; exact hX.out)
      have CP := Lib.hid (copies_any (tgX xs) Av cv p HXL.out (by omega) (fun x hx => HSM.out x (List.mem_filter.1 hx).1) wr HRA.out)
      clear ht hX hO HS
      go_wp2_with fail
      refine CP.out.mono ?_
      rintro e w4 ⟨ys, A4, c4, rfl, hm4, hS4, hb4⟩
      have HB4 := Lib.hid (below_next hB.out hb4)
      have HS4 := Lib.hid hS4
      have HM4 := Lib.hid hm4
      have HL4 := Lib.hid (show ys.length = p by have := congrArg List.length hm4; simp only [List.length_map] at this; rw [this]; exact HXL.out)
      clear hm4 hS4 hb4 CP
      go_wp2_with fail
      go_ret
      exact ⟨ys, A4, c4, p, rfl, HL4.out, HM4.out, HS4.out, HB4.out⟩
end Go.Proofs.YtpoejnajnaolpaaGreatDoor
