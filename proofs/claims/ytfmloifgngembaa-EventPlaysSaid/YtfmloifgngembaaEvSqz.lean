/- Layer 15: Squeeze, with its map of the last places. -/
import Derived.Test.YtfmloifgngembaaEvDiv
namespace Go.Proofs.Ytfmloifgngembaa
open Go.RowKit

/-- The last place below k at which each key stands. -/
def lastG (l : List EvI) : Nat → Ky → Option Value
  | 0 => fun _ => none
  | k + 1 => fun x => if (l[k]?).map kyE = some x then some (.int .i64 (k : Int)) else lastG l k x
theorem lastG_step {l : List EvI} {k : Nat} (hk : k < l.length) : lastG l (k + 1) = fun x => if x = kyE l[k] then some (.int .i64 (k : Int)) else lastG l k x := by
  funext x
  show (if (l[k]?).map kyE = some x then some (Value.int .i64 (k : Int)) else lastG l k x) = _
  rw [List.getElem?_eq_getElem hk]
  by_cases e : x = kyE l[k]
  · subst e; simp
  · have e' : ¬ kyE l[k] = x := fun h => e h.symm
    simp [e, e']
theorem lastG_spec {l : List EvI} {k : Nat} (hk : k < l.length) : ∀ n, k < n → n ≤ l.length → ∃ j : Nat, lastG l n (kyE l[k]) = some (.int .i64 (j : Int)) ∧ k ≤ j ∧ j < n ∧ (j = k ↔ ∀ i (hi : i < l.length), k < i → i < n → kyE l[i] ≠ kyE l[k])
  | 0, h, _ => absurd h (Nat.not_lt_zero _)
  | n + 1, h, hn => by
    have hnl : n < l.length := hn
    rw [lastG_step hnl]
    by_cases e : kyE l[k] = kyE l[n]
    · refine ⟨n, by simp only [if_pos e], by omega, by omega, ?_⟩
      constructor
      · rintro rfl i hi h1 h2
        omega
      · intro hh
        rcases Nat.lt_or_ge k n with h1 | h1
        · exact absurd e.symm (hh n hnl h1 (by omega))
        · omega
    · have hkn : k < n := by
        rcases Nat.lt_or_ge k n with h1 | h1
        · exact h1
        · obtain rfl : k = n := by omega
          exact absurd rfl e
      obtain ⟨j, h1, h2, h3, h4⟩ := lastG_spec hk n hkn (by omega)
      refine ⟨j, by simp only [if_neg e]; exact h1, h2, by omega, h4.trans ⟨fun hh i hi a b => ?_, fun hh i hi a b => hh i hi a (by omega)⟩⟩
      rcases Nat.lt_or_ge i n with c | c
      · exact hh i hi a c
      · obtain rfl : i = n := by omega
        exact fun e2 => e e2.symm
/-- A change stays exactly if it stands at its key's last place. -/
theorem later_last {l : List EvI} {k : Nat} (hk : k < l.length) (h3 : l[k].k = 3) : ∃ j : Nat, lastG l l.length (kyE l[k]) = some (.int .i64 (j : Int)) ∧ ((laterE l[k] (l.drop (k + 1)) = false ∧ j = k) ∨ (laterE l[k] (l.drop (k + 1)) = true ∧ j ≠ k)) := by
  obtain ⟨j, h1, h2, hj, h4⟩ := lastG_spec hk l.length hk (Nat.le_refl _)
  refine ⟨j, h1, ?_⟩
  cases h : laterE l[k] (l.drop (k + 1)) with
  | false =>
    refine .inl ⟨rfl, h4.2 fun i hi a _ e => ?_⟩
    unfold laterE at h
    rw [List.any_eq_false] at h
    have hm : l[i] ∈ l.drop (k + 1) := by
      rw [List.mem_iff_getElem]
      exact ⟨i - (k + 1), by rw [List.length_drop]; omega, by rw [List.getElem_drop]; congr 1; omega⟩
    have e' : l[i].k = l[k].k ∧ l[i].u = l[k].u := by
      unfold kyE at e
      simpa using e
    exact h _ hm (decide_eq_true ⟨h3, by rw [e'.1, h3], e'.2⟩)
  | true =>
    refine .inr ⟨rfl, fun e => ?_⟩
    unfold laterE at h
    rw [List.any_eq_true] at h
    obtain ⟨y, hy, hd⟩ := h
    obtain ⟨i, hi, rfl⟩ := List.mem_iff_getElem.1 hy
    rw [List.length_drop] at hi
    have hd' := of_decide_eq_true hd
    rw [List.getElem_drop] at hd'
    refine h4.1 e (k + 1 + i) (by omega) (by omega) (by omega) ?_
    unfold kyE
    rw [hd'.2.1, hd'.2.2, h3]
theorem zeroI15 (w : World) : (zeroValue 3).run Try.prog w = .ok (.int .i64 0) w := by kernel_rfl
theorem laterE_no {x : EvI} (h : x.k ≠ 3) (l : List EvI) : laterE x l = false := by
  unfold laterE
  rw [List.any_eq_false]
  intro y _ e
  exact h (of_decide_eq_true e).1
section
variable {A : Option Addr} {c : Nat} {l : List EvI} {w : World}
set_option maxRecDepth 100000 in
set_option maxHeartbeats 4000000 in
theorem qsqueeze_any (A : Option Addr) (c : Nat) (l : List EvI) (hl : l.length ≤ 100000) (hok : ∀ x ∈ l, evOk x) (w : World) (hS : SlAt encEv 3 w A l) :
    Calls Try.prog 21 #[.slice A l.length c] w fun e w' => ∃ v, e = .returned v ∧ w'.ownsRow w.heap.size 39 3 v (sqE l).length (flatL encEv (sqE l)) ∧ Below w.heap.size w w' := by
  obtain ⟨i0, hi, hz0, hz1, hz2⟩ := info_parts infoEv
  have HS := Lib.hid hS
  have HOK := Lib.hid hok
  have ht : Try.prog.underlying 61 = some (.map 59 3) := Try.underlying61
  have HT := Lib.hid ht
  have KY := Lib.hid (fun x W => keyOfE_any x W)
  have M0 := Lib.hid (MapK.made w)
  have B0 := Lib.hid (below_al w (.map #[] 0))
  have hmm := @run_makeMap Try.prog
  clear hS hok ht
  go_enter Try.func21, Try.ntmps21
  go_wp2_with fail
  go_loopw [12] (fun i wr => ∃ k : Nat, k ≤ l.length ∧ i = .int .i64 k ∧ Hid (MapK wr w.heap.size k (lastG l k)) ∧ Hid (Below w.heap.size w wr)) (fun i _ => l.length - (intOf i).toNat)
  case atStart => exact ⟨0, Nat.zero_le _, rfl, M0, B0⟩
  case round =>
    obtain ⟨k, hk, rfl, hM, hB⟩ := hrel
    clear M0 B0
    have hk0 : (0 : Int) ≤ (k : Int) := by omega
    by_cases hlt : k < l.length
    · obtain ⟨b, off, rfl, hb, hx, hx1, hx2⟩ := (HS.out.below hB.out).ev hlt
      have hk1 : (k : Int) < (l.length : Int) := by omega
      have HG := Lib.hid (lastG_step hlt)
      have HX := Lib.hid (kyE_ok (HOK.out l[k] (List.getElem_mem hlt)))
      generalize l[k] = x at *
      have C := KY.out x (wr.alloc (.cells #[.int .i64 x.k, .int .u32 (x.u : Int), .int .u8 (x.f : Int)] 39))
      have HB1 := Lib.hid (hB.out.alloc hB.out.size (.cells #[.int .i64 x.k, .int .u32 (x.u : Int), .int .u8 (x.f : Int)] 39))
      have HM1 := Lib.hid (hM.out.below (below_al wr (.cells #[.int .i64 x.k, .int .u32 (x.u : Int), .int .u8 (x.f : Int)] 39)))
      unfold evV Ky.v at C
      have C := Lib.hid C
      clear hM
      go_wp2_with fail
      refine C.out.mono ?_
      rintro e w2 ⟨rfl, hb2⟩
      obtain ⟨w3, hrun, hm3, hg3⟩ := (HM1.out.below hb2).store HT.out (by unfold maxLen; omega) HX.out (.int .i64 (k : Int))
      rw [← HG.out] at hm3
      have HM3 := Lib.hid hm3
      have HB2 := HB1.out.trans (hb2.mono HB1.out.size)
      have HB3 := Lib.hid (HB2.grown hg3 HB2.size (fun k hk => by cases hk; exact Nat.le_refl _))
      unfold Ky.v at hrun
      clear C hb2 hm3 hg3 HB2 HM1 HB1 hx hx1 hx2
      go_wp2_with fail
      go_roundw
      case rel => exact ⟨k + 1, by omega, by go_num, HM3, HB3⟩
      case measure => simp [intOf]; omega
    · obtain rfl : k = l.length := by omega
      have HM0 := hM
      have HB0 := hB
      clear hM hB hlt hk0 hk hmm
      have HZ := Lib.hid (fun W => zeroI15 W)
      go_wp2_with fail
      go_loopw [6, 24] (fun v i wr => ∃ k : Nat, k ≤ l.length ∧ i = .int .i64 k ∧ ∃ O : List EvI, Hid (O.length ≤ k) ∧ Hid (wr.ownsRow (w.heap.size + 1) 39 3 v O.length (flatL encEv O)) ∧ Hid (MapK wr w.heap.size l.length (lastG l l.length)) ∧ Hid (Below w.heap.size w wr) ∧ Hid (O ++ sqE (l.drop k) = sqE l)) (fun _ i _ => l.length - (intOf i).toNat)
      case atStart => exact ⟨0, Nat.zero_le _, rfl, [], Lib.hid (Nat.le_refl _), Lib.hid (World.ownsRow_nil _ _ _ _), HM0, HB0, Lib.hid rfl⟩
      case round =>
        obtain ⟨k, hk, rfl, O, hOl, hrow, hM, hB, hE⟩ := hrel
        clear HM0 HB0
        obtain ⟨A', c', rfl⟩ := own_any hrow.out
        have hk0 : (0 : Int) ≤ (k : Int) := by omega
        by_cases hlt : k < l.length
        · obtain ⟨b, off, rfl, hb, hx, hx1, hx2⟩ := (HS.out.below hB.out).ev hlt
          have hk1 : (k : Int) < (l.length : Int) := by omega
          have HD := Lib.hid (show sqE (l.drop k) = if laterE l[k] (l.drop (k + 1)) = true then sqE (l.drop (k + 1)) else l[k] :: sqE (l.drop (k + 1)) by rw [List.drop_eq_getElem_cons hlt]; rfl)
          have HX := Lib.hid (kyE_ok (HOK.out l[k] (List.getElem_mem hlt)))
          have HL := Lib.hid (fun h3 => later_last hlt h3)
          generalize l[k] = x at *
          by_cases h3 : x.k = 3
          · obtain ⟨j, hj1, hj2⟩ := HL.out h3
            have HJ := Lib.hid hj1
            have HEX := Lib.hid (show flatL encEv [x] = [.int .i64 3, .int .u32 (x.u : Int), .int .u8 (x.f : Int)] by simp [flatL, encEv, h3])
            have HONE := Lib.hid (show ∀ u ∈ [Value.int .i64 3, .int .u32 (x.u : Int), .int .u8 (x.f : Int)], u.oneCell' = true from h3 ▸ ev_one x)
            have HKV := Lib.hid (show (kyE x).v = .agg #[.int .i64 3, .int .u32 (x.u : Int)] by unfold kyE Ky.v; simp only [h3])
            have C := KY.out x (wr.alloc (.cells #[.int .i64 3, .int .u32 (x.u : Int), .int .u8 (x.f : Int)] 39))
            have HB1 := Lib.hid (hB.out.alloc hB.out.size (.cells #[.int .i64 3, .int .u32 (x.u : Int), .int .u8 (x.f : Int)] 39))
            have HM1 := Lib.hid (hM.out.below (below_al wr (.cells #[.int .i64 3, .int .u32 (x.u : Int), .int .u8 (x.f : Int)] 39)))
            have HR1 := Lib.hid (own_below hrow.out (below_al wr (.cells #[.int .i64 3, .int .u32 (x.u : Int), .int .u8 (x.f : Int)] 39)))
            have HNW := Lib.hid (heap_alloc_new wr (.cells #[.int .i64 3, .int .u32 (x.u : Int), .int .u8 (x.f : Int)] 39))
            have HSZ := Lib.hid (show wr.heap.size < (wr.alloc (.cells #[.int .i64 3, .int .u32 (x.u : Int), .int .u8 (x.f : Int)] 39)).heap.size by simp)
            rw [HKV.out] at C
            unfold evV at C
            rw [h3] at C hx
            have C := Lib.hid C
            clear hj1 hM hrow hB HL h3 KY
            go_wp2_with fail
            refine C.out.mono ?_
            rintro e w2 ⟨rfl, hb2⟩
            have hbox := (hb2.block _ HSZ.out).trans HNW.out
            have y0 := cell_of_row _ _ 0 _ _ _ hbox
            have y1 := cell_of_row _ _ 1 _ _ _ hbox
            have y2 := cell_of_row _ _ 2 _ _ _ hbox
            have hlk := (HM1.out.below hb2).look1 HT.out (HZ.out w2) HX.out
            rw [HJ.out, HKV.out] at hlk
            have HM2 := Lib.hid (HM1.out.below hb2)
            have HO1 := Lib.hid (own_below HR1.out hb2)
            have HB2 := Lib.hid (HB1.out.trans (hb2.mono HB1.out.size))
            simp only [Option.getD_some] at hlk
            clear C hb2 HNW HSZ hbox HM1 HR1 HB1 hx hx1 hx2
            rcases hj2 with ⟨hla, rfl⟩ | ⟨hla, hne⟩
            · have HF := Lib.hid (show (O ++ [x]) ++ sqE (l.drop (j + 1)) = sqE l by rw [← hE.out, HD.out, hla]; simp)
              clear hla hE HD
              have hOl2 := hOl.out
              have hBs := HB2.out.size
              have hms := HM2.out.lt
              have HRW := Lib.hid (HO1.out.alloc (.cells #[.int .i64 3, .int .u32 (x.u : Int), .int .u8 (x.f : Int)] 39))
              go_wp2_with (at_builtin; refine wpList_append_own _ rfl _ _ 28 rfl (w.heap.size + 1) 39 i0 _ 3 16 Try.underlying28 hi hz0 hz1 hz2 rfl (by decide) _ _ _ rfl HRW.out ⟨w2.heap.size, 0, none⟩ 1 1 [.int .i64 3, .int .u32 (x.u : Int), .int .u8 (x.f : Int)] rfl rfl (cells_new3 rfl _ _ _ _) HONE.out (by unfold maxLen; omega) (by omega) (by simp; omega) ?_; intro v' wz hown' hgrow _; obtain ⟨A3, c3, rfl⟩ := own_any hown'; have HB3 := Lib.hid ((HB2.out.alloc hBs (.cells #[.int .i64 3, .int .u32 (x.u : Int), .int .u8 (x.f : Int)] 39)).grown hgrow (by simp; omega) (fun k hk => by have := (HO1.out.lt k hk).1; omega)); have HO3 := Lib.hid hown'; have HM3 := Lib.hid ((HM2.out.below (below_al w2 (.cells #[.int .i64 3, .int .u32 (x.u : Int), .int .u8 (x.f : Int)] 39))).kept hgrow (fun e => by have := (HO1.out.lt _ e.symm).1; omega)); clear hown' hgrow)
              go_roundw
              case rel => exact ⟨j + 1, by omega, by go_num, O ++ [x], Lib.hid (by rw [List.length_append]; simp; omega), Lib.hid (by rw [List.length_append, flatL_append, HEX.out]; exact HO3.out), HM3, HB3, HF⟩
              case measure => simp [intOf]; omega
            · have HF := Lib.hid (show O ++ sqE (l.drop (k + 1)) = sqE l by rw [← hE.out, HD.out, hla]; rfl)
              have hnb : ((j : Int) == (k : Int)) = false := beq_eq_false_iff_ne.2 (by omega)
              clear hla hE HD hne
              go_wp2_with fail
              go_roundw
              case rel => exact ⟨k + 1, by omega, by go_num, O, Lib.hid (by have := hOl.out; omega), HO1, HM2, HB2, HF⟩
              case measure => simp [intOf]; omega
          · have hne : (x.k == 3) = false := beq_eq_false_iff_ne.2 h3
            have HF := Lib.hid (show (O ++ [x]) ++ sqE (l.drop (k + 1)) = sqE l by rw [← hE.out, HD.out, laterE_no h3]; simp)
            have HONE := Lib.hid (ev_one x)
            have HB1 := Lib.hid (hB.out.alloc hB.out.size (.cells #[.int .i64 x.k, .int .u32 (x.u : Int), .int .u8 (x.f : Int)] 39))
            have HM1 := Lib.hid (hM.out.below (below_al wr (.cells #[.int .i64 x.k, .int .u32 (x.u : Int), .int .u8 (x.f : Int)] 39)))
            have HR1 := Lib.hid (own_below hrow.out (below_al wr (.cells #[.int .i64 x.k, .int .u32 (x.u : Int), .int .u8 (x.f : Int)] 39)))
            have hbox := heap_alloc_new wr (.cells #[.int .i64 x.k, .int .u32 (x.u : Int), .int .u8 (x.f : Int)] 39)
            have y0 := cell_of_row _ _ 0 _ _ _ hbox
            have y1 := cell_of_row _ _ 1 _ _ _ hbox
            have y2 := cell_of_row _ _ 2 _ _ _ hbox
            clear hM hrow hB HL KY hE HD hbox
            go_upto_region 11 with (fail)
            generalize wr.alloc _ = w2 at *
            have HM2 := HM1
            have HO1 := HR1
            have HB2 := HB1
            clear HM1 HR1 HB1
            have hOl2 := hOl.out
            have hBs := HB2.out.size
            have hms := HM2.out.lt
            have HRW := Lib.hid (HO1.out.alloc (.cells #[.int .i64 x.k, .int .u32 (x.u : Int), .int .u8 (x.f : Int)] 39))
            go_wp2_with (at_builtin; refine wpList_append_own _ rfl _ _ 28 rfl (w.heap.size + 1) 39 i0 _ 3 16 Try.underlying28 hi hz0 hz1 hz2 rfl (by decide) _ _ _ rfl HRW.out ⟨w2.heap.size, 0, none⟩ 1 1 [.int .i64 x.k, .int .u32 (x.u : Int), .int .u8 (x.f : Int)] rfl rfl (cells_new3 rfl _ _ _ _) HONE.out (by unfold maxLen; omega) (by omega) (by simp; omega) ?_; intro v' wz hown' hgrow _; obtain ⟨A3, c3, rfl⟩ := own_any hown'; have HB3 := Lib.hid ((HB2.out.alloc hBs (.cells #[.int .i64 x.k, .int .u32 (x.u : Int), .int .u8 (x.f : Int)] 39)).grown hgrow (by simp; omega) (fun k hk => by have := (HO1.out.lt k hk).1; omega)); have HO3 := Lib.hid hown'; have HM3 := Lib.hid ((HM2.out.below (below_al w2 (.cells #[.int .i64 x.k, .int .u32 (x.u : Int), .int .u8 (x.f : Int)] 39))).kept hgrow (fun e => by have := (HO1.out.lt _ e.symm).1; omega)); clear hown' hgrow)
            go_roundw
            case rel => exact ⟨k + 1, by omega, by go_num, O ++ [x], Lib.hid (by rw [List.length_append]; simp; omega), Lib.hid (by rw [List.length_append, flatL_append]; exact HO3.out), HM3, HB3, HF⟩
            case measure => simp [intOf]; omega
        · obtain rfl : k = l.length := by omega
          have HF := Lib.hid (show O = sqE l by have := hE.out; rw [List.drop_length] at this; simpa [sqE] using this)
          clear hE
          go_wp2_with fail
          go_ret
          rw [← HF.out]
          exact ⟨_, rfl, own_mono hrow.out (by omega), hB.out⟩
end
end Go.Proofs.Ytfmloifgngembaa
