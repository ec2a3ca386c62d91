/- Layer 15: Squeeze, with its map of the last places. -/
import Derived.Test.YthdbbappojkmoaaGreatHd
import Derived.Lib.SmallJoins
namespace Go.Proofs.YthdbbappojkmoaaGreat
open Go.RowKit

/-- The last place below k at which each key stands. -/
def lastG (l : List EvI) : Nat → Ky → Option Value
  | 0 => fun _ => none
  | k + 1 => fun x => if (l[k]?).map kyE = some x then some (.int .i64 (k : Int)) else lastG l k x
theorem lastG_step {l : List EvI} {k : Nat} (hk : k < l.length) : lastG l (k + 1) = fun x => if x = kyE l[k] then some (.int .i64 (k : Int)) else lastG l k x := by
  funext x
  show (if (l[k]?).map kyE = some x then some (Value.int .i64 (k : Int)) else lastG l k x) = _
  rw [List.getElem?_eq_getElem hk]
  by_cases e : x = kyE l[k]
  · subst e; simp
  · have e' : ¬ kyE l[k] = x := fun h => e h.symm
    simp [e, e']
theorem lastG_spec {l : List EvI} {k : Nat} (hk : k < l.length) : ∀ n, k < n → n ≤ l.length → ∃ j : Nat, lastG l n (kyE l[k]) = some (.int .i64 (j : Int)) ∧ k ≤ j ∧ j < n ∧ (j = k ↔ ∀ i (hi : i < l.length), k < i → i < n → kyE l[i] ≠ kyE l[k])
  | 0, h, _ => absurd h (Nat.not_lt_zero _)
  | n + 1, h, hn => by
    have hnl : n < l.length := hn
    rw [lastG_step hnl]
    by_cases e : kyE l[k] = kyE l[n]
    · refine ⟨n, by simp only [if_pos e], by omega, by omega, ?_⟩
      constructor
      · rintro rfl i hi h1 h2
        omega
      · intro hh
        rcases Nat.lt_or_ge k n with h1 | h1
        · exact absurd e.symm (hh n hnl h1 (by omega))
        · omega
    · have hkn : k < n := by
        rcases Nat.lt_or_ge k n with h1 | h1
        · exact h1
        · obtain rfl : k = n := by omega
          exact absurd rfl e
      obtain ⟨j, h1, h2, h3, h4⟩ := lastG_spec hk n hkn (by omega)
      refine ⟨j, by simp only [if_neg e]; exact h1, h2, by omega, h4.trans ⟨fun hh i hi a b => ?_, fun hh i hi a b => hh i hi a (by omega)⟩⟩
      rcases Nat.lt_or_ge i n with c | c
      · exact hh i hi a c
      · obtain rfl : i = n := by omega
        exact fun e2 => e e2.symm
/-- A change stays exactly if it stands at its key's last place. -/
theorem later_last {l : List EvI} {k : Nat} (hk : k < l.length) (h3 : l[k].k = 3) : ∃ j : Nat, lastG l l.length (kyE l[k]) = some (.int .i64 (j : Int)) ∧ ((laterE l[k] (l.drop (k + 1)) = false ∧ j = k) ∨ (laterE l[k] (l.drop (k + 1)) = true ∧ j ≠ k)) := by
  obtain ⟨j, h1, h2, hj, h4⟩ := lastG_spec hk l.length hk (Nat.le_refl _)
  refine ⟨j, h1, ?_⟩
  cases h : laterE l[k] (l.drop (k + 1)) with
  | false =>
    refine .inl ⟨rfl, h4.2 fun i hi a _ e => ?_⟩
    unfold laterE at h
    rw [List.any_eq_false] at h
    have hm : l[i] ∈ l.drop (k + 1) := by
      rw [List.mem_iff_getElem]
      exact ⟨i - (k + 1), by rw [List.length_drop]; omega, by rw [List.getElem_drop]; congr 1; omega⟩
    have e' : l[i].k = l[k].k ∧ l[i].u = l[k].u := by
      unfold kyE at e
      simpa using e
    exact h _ hm (decide_eq_true ⟨h3, by rw [e'.1, h3], e'.2⟩)
  | true =>
    refine .inr ⟨rfl, fun e => ?_⟩
    unfold laterE at h
    rw [List.any_eq_true] at h
    obtain ⟨y, hy, hd⟩ := h
    obtain ⟨i, hi, rfl⟩ := List.mem_iff_getElem.1 hy
    rw [List.length_drop] at hi
    have hd' := of_decide_eq_true hd
    rw [List.getElem_drop] at hd'
    refine h4.1 e (k + 1 + i) (by omega) (by omega) (by omega) ?_
    unfold kyE
    rw [hd'.2.1, hd'.2.2, h3]
theorem zeroI15 (w : World) : (zeroValue 3).run Tryz.prog w = .ok (.int .i64 0) w := by kernel_rfl
theorem laterE_no {x : EvI} (h : x.k ≠ 3) (l : List EvI) : laterE x l = false := by
  unfold laterE
  rw [List.any_eq_false]
  intro y _ e
  exact h (of_decide_eq_true e).1
section
variable {A : Option Addr} {c : Nat} {l : List EvI} {w : World}
set_option maxRecDepth 100000 in
set_option maxHeartbeats 4000000 in
theorem qsqueeze_any (A : Option Addr) (c : Nat) (l : List EvI) (hl : l.length ≤ 100000) (hok : ∀ x ∈ l, evOk x) (w : World) (hS : SlAt encEv 3 w A l) :
    Calls Tryz.prog 63 #[.slice A l.length c] w fun e w' => ∃ v, e = .returned v ∧ w'.ownsRow w.heap.size 44 3 v (sqE l).length (flatL encEv (sqE l)) ∧ Below w.heap.size w w' := by
  obtain ⟨i0, hi, hz0, hz1, hz2⟩ := info_parts infoEv
  have HS := Lib.hid hS
  have HOK := Lib.hid hok
  have ht : Tryz.prog.underlying 143 = some (.map 145 3) := Tryz.underlying143
  have HT := Lib.hid ht
  have KY := Lib.hid (fun x W => keyOfE_any x W)
  have M0 := Lib.hid (MapK.made w)
  have B0 := Lib.hid (below_al w (.map #[] 0))
  have hmm := @run_makeMap Tryz.prog
  clear hS hok ht
  go_enter Tryz.func63, Tryz.ntmps63
  go_wp2_with fail
  go_loopw [12] (fun i wr => ∃ k : Nat, k ≤ l.length ∧ i = .int .i64 k ∧ Hid (MapK wr w.heap.size k (lastG l k)) ∧ Hid (Below w.heap.size w wr)) (fun i _ => l.length - (intOf i).toNat)
  case atStart => exact ⟨0, Nat.zero_le _, rfl, M0, B0⟩
  case round =>
    obtain ⟨k, hk, rfl, hM, hB⟩ := hrel
    clear M0 B0
    have hk0 : (0 : Int) ≤ (k : Int) := by omega
    by_cases hlt : k < l.length
    · obtain ⟨b, off, rfl, hb, hx, hx1, hx2⟩ := (HS.out.below hB.out).ev hlt
      have hk1 : (k : Int) < (l.length : Int) := by omega
      have HG := Lib.hid (lastG_step hlt)
      have HX := Lib.hid (kyE_ok (HOK.out l[k] (List.getElem_mem hlt)))
      generalize l[k] = x at *
      have C := KY.out x (wr.alloc (.cells #[.int .i64 x.k, .int .u32 (x.u : Int), .int .u8 (x.f : Int)] 44))
      have HB1 := Lib.hid (hB.out.alloc hB.out.size (.cells #[.int .i64 x.k, .int .u32 (x.u : Int), .int .u8 (x.f : Int)] 44))
      have HM1 := Lib.hid (hM.out.below (below_al wr (.cells #[.int .i64 x.k, .int .u32 (x.u : Int), .int .u8 (x.f : Int)] 44)))
      unfold evV Ky.v at C
      have C := Lib.hid C
      clear hM
      go_wp2_with fail
      refine C.out.mono ?_
      rintro e w2 ⟨rfl, hb2⟩
      obtain ⟨w3, hrun, hm3, hg3⟩ := (HM1.out.below hb2).store HT.out (by unfold maxLen; omega) HX.out (.int .i64 (k : Int))
      rw [← HG.out] at hm3
      have HM3 := Lib.hid hm3
      have HB2 := HB1.out.trans (hb2.mono HB1.out.size)
      have HB3 := Lib.hid (HB2.grown hg3 HB2.size (fun k hk => by cases hk; exact Nat.le_refl _))
      unfold Ky.v at hrun
      clear C hb2 hm3 hg3 HB2 HM1 HB1 hx hx1 hx2
      go_wp2_with fail
      go_roundw
      case rel => exact ⟨k + 1, by omega, by go_num, HM3, HB3⟩
      case measure => simp [intOf]; omega
    · obtain rfl : k = l.length := by omega
      have HM0 := hM
      have HB0 := hB
      clear hM hB hlt hk0 hk hmm
      have HZ := Lib.hid (fun W => zeroI15 W)
      go_wp2_with fail
      go_loopw [6, 24] (fun v i wr => ∃ k : Nat, k ≤ l.length ∧ i = .int .i64 k ∧ ∃ O : List EvI, Hid (O.length ≤ k) ∧ Hid (wr.ownsRow (w.heap.size + 1) 44 3 v O.length (flatL encEv O)) ∧ Hid (MapK wr w.heap.size l.length (lastG l l.length)) ∧ Hid (Below w.heap.size w wr) ∧ Hid (O ++ sqE (l.drop k) = sqE l)) (fun _ i _ => l.length - (intOf i).toNat)
      case atStart => exact ⟨0, Nat.zero_le _, rfl, [], Lib.hid (Nat.le_refl _), Lib.hid (World.ownsRow_nil _ _ _ _), HM0, HB0, Lib.hid rfl⟩
      case round =>
        obtain ⟨k, hk, rfl, O, hOl, hrow, hM, hB, hE⟩ := hrel
        clear HM0 HB0
        obtain ⟨A', c', rfl⟩ := own_any hrow.out
        have hk0 : (0 : Int) ≤ (k : Int) := by omega
        by_cases hlt : k < l.length
        · obtain ⟨b, off, rfl, hb, hx, hx1, hx2⟩ := (HS.out.below hB.out).ev hlt
          have hk1 : (k : Int) < (l.length : Int) := by omega
          have HD := Lib.hid (show sqE (l.drop k) = if laterE l[k] (l.drop (k + 1)) = true then sqE (l.drop (k + 1)) else l[k] :: sqE (l.drop (k + 1)) by rw [List.drop_eq_getElem_cons hlt]; rfl)
          have HX := Lib.hid (kyE_ok (HOK.out l[k] (List.getElem_mem hlt)))
          have HL := Lib.hid (fun h3 => later_last hlt h3)
          generalize l[k] = x at *
          by_cases h3 : x.k = 3
          · obtain ⟨j, hj1, hj2⟩ := HL.out h3
            have HJ := Lib.hid hj1
            have HEX := Lib.hid (show flatL encEv [x] = [.int .i64 3, .int .u32 (x.u : Int), .int .u8 (x.f : Int)] by simp [flatL, encEv, h3])
            have HONE := Lib.hid (show ∀ u ∈ [Value.int .i64 3, .int .u32 (x.u : Int), .int .u8 (x.f : Int)], u.oneCell' = true from h3 ▸ ev_one x)
            have HKV := Lib.hid (show (kyE x).v = .agg #[.int .i64 3, .int .u32 (x.u : Int)] by unfold kyE Ky.v; simp only [h3])
            have C := KY.out x (wr.alloc (.cells #[.int .i64 3, .int .u32 (x.u : Int), .int .u8 (x.f : Int)] 44))
            have HB1 := Lib.hid (hB.out.alloc hB.out.size (.cells #[.int .i64 3, .int .u32 (x.u : Int), .int .u8 (x.f : Int)] 44))
            have HM1 := Lib.hid (hM.out.below (below_al wr (.cells #[.int .i64 3, .int .u32 (x.u : Int), .int .u8 (x.f : Int)] 44)))
            have HR1 := Lib.hid (own_below hrow.out (below_al wr (.cells #[.int .i64 3, .int .u32 (x.u : Int), .int .u8 (x.f : Int)] 44)))
            have HNW := Lib.hid (heap_alloc_new wr (.cells #[.int .i64 3, .int .u32 (x.u : Int), .int .u8 (x.f : Int)] 44))
            have HSZ := Lib.hid (show wr.heap.size < (wr.alloc (.cells #[.int .i64 3, .int .u32 (x.u : Int), .int .u8 (x.f : Int)] 44)).heap.size by simp)
            rw [HKV.out] at C
            unfold evV at C
            rw [h3] at C hx
            have C := Lib.hid C
            clear hj1 hM hrow hB HL h3 KY
            go_wp2_with fail
            refine C.out.mono ?_
            rintro e w2 ⟨rfl, hb2⟩
            have hbox := (hb2.block _ HSZ.out).trans HNW.out
            have y0 := cell_of_row _ _ 0 _ _ _ hbox
            have y1 := cell_of_row _ _ 1 _ _ _ hbox
            have y2 := cell_of_row _ _ 2 _ _ _ hbox
            have hlk := (HM1.out.below hb2).look1 HT.out (HZ.out w2) HX.out
            rw [HJ.out, HKV.out] at hlk
            have HM2 := Lib.hid (HM1.out.below hb2)
            have HO1 := Lib.hid (own_below HR1.out hb2)
            have HB2 := Lib.hid (HB1.out.trans (hb2.mono HB1.out.size))
            simp only [Option.getD_some] at hlk
            clear C hb2 HNW HSZ hbox HM1 HR1 HB1 hx hx1 hx2
            rcases hj2 with ⟨hla, rfl⟩ | ⟨hla, hne⟩
            · have HF := Lib.hid (show (O ++ [x]) ++ sqE (l.drop (j + 1)) = sqE l by rw [← hE.out, HD.out, hla]; simp)
              clear hla hE HD
              have hOl2 := hOl.out
              have hBs := HB2.out.size
              have hms := HM2.out.lt
              have HRW := Lib.hid (HO1.out.alloc (.cells #[.int .i64 3, .int .u32 (x.u : Int), .int .u8 (x.f : Int)] 44))
              go_wp2_with (at_builtin; refine wpList_append_own _ rfl _ _ 41 rfl (w.heap.size + 1) 44 i0 _ 3 16 Tryz.underlying41 hi hz0 hz1 hz2 rfl (by decide) _ _ _ rfl HRW.out ⟨w2.heap.size, 0, none⟩ 1 1 [.int .i64 3, .int .u32 (x.u : Int), .int .u8 (x.f : Int)] rfl rfl (cells_new3 rfl _ _ _ _) HONE.out (by unfold maxLen; omega) (by omega) (by simp; omega) ?_; intro v' wz hown' hgrow _; obtain ⟨A3, c3, rfl⟩ := own_any hown'; have HB3 := Lib.hid ((HB2.out.alloc hBs (.cells #[.int .i64 3, .int .u32 (x.u : Int), .int .u8 (x.f : Int)] 44)).grown hgrow (by simp; omega) (fun k hk => by have := (HO1.out.lt k hk).1; omega)); have HO3 := Lib.hid hown'; have HM3 := Lib.hid ((HM2.out.below (below_al w2 (.cells #[.int .i64 3, .int .u32 (x.u : Int), .int .u8 (x.f : Int)] 44))).kept hgrow (fun e => by have := (HO1.out.lt _ e.symm).1; omega)); clear hown' hgrow)
              go_roundw
              case rel => exact ⟨j + 1, by omega, by go_num, O ++ [x], Lib.hid (by rw [List.length_append]; simp; omega), Lib.hid (by rw [List.length_append, flatL_append, HEX.out]; exact HO3.out), HM3, HB3, HF⟩
              case measure => simp [intOf]; omega
            · have HF := Lib.hid (show O ++ sqE (l.drop (k + 1)) = sqE l by rw [← hE.out, HD.out, hla]; rfl)
              have hnb : ((j : Int) == (k : Int)) = false := beq_eq_false_iff_ne.2 (by omega)
              clear hla hE HD hne
              go_wp2_with fail
              go_roundw
              case rel => exact ⟨k + 1, by omega, by go_num, O, Lib.hid (by have := hOl.out; omega), HO1, HM2, HB2, HF⟩
              case measure => simp [intOf]; omega
          · have hne : (x.k == 3) = false := beq_eq_false_iff_ne.2 h3
            have HF := Lib.hid (show (O ++ [x]) ++ sqE (l.drop (k + 1)) = sqE l by rw [← hE.out, HD.out, laterE_no h3]; simp)
            have HONE := Lib.hid (ev_one x)
            have HB1 := Lib.hid (hB.out.alloc hB.out.size (.cells #[.int .i64 x.k, .int .u32 (x.u : Int), .int .u8 (x.f : Int)] 44))
            have HM1 := Lib.hid (hM.out.below (below_al wr (.cells #[.int .i64 x.k, .int .u32 (x.u : Int), .int .u8 (x.f : Int)] 44)))
            have HR1 := Lib.hid (own_below hrow.out (below_al wr (.cells #[.int .i64 x.k, .int .u32 (x.u : Int), .int .u8 (x.f : Int)] 44)))
            have hbox := heap_alloc_new wr (.cells #[.int .i64 x.k, .int .u32 (x.u : Int), .int .u8 (x.f : Int)] 44)
            have y0 := cell_of_row _ _ 0 _ _ _ hbox
            have y1 := cell_of_row _ _ 1 _ _ _ hbox
            have y2 := cell_of_row _ _ 2 _ _ _ hbox
            clear hM hrow hB HL KY hE HD hbox
            go_upto_region 11 with (fail)
            generalize wr.alloc _ = w2 at *
            have HM2 := HM1
            have HO1 := HR1
            have HB2 := HB1
            clear HM1 HR1 HB1
            have hOl2 := hOl.out
            have hBs := HB2.out.size
            have hms := HM2.out.lt
            have HRW := Lib.hid (HO1.out.alloc (.cells #[.int .i64 x.k, .int .u32 (x.u : Int), .int .u8 (x.f : Int)] 44))
            go_wp2_with (at_builtin; refine wpList_append_own _ rfl _ _ 41 rfl (w.heap.size + 1) 44 i0 _ 3 16 Tryz.underlying41 hi hz0 hz1 hz2 rfl (by decide) _ _ _ rfl HRW.out ⟨w2.heap.size, 0, none⟩ 1 1 [.int .i64 x.k, .int .u32 (x.u : Int), .int .u8 (x.f : Int)] rfl rfl (cells_new3 rfl _ _ _ _) HONE.out (by unfold maxLen; omega) (by omega) (by simp; omega) ?_; intro v' wz hown' hgrow _; obtain ⟨A3, c3, rfl⟩ := own_any hown'; have HB3 := Lib.hid ((HB2.out.alloc hBs (.cells #[.int .i64 x.k, .int .u32 (x.u : Int), .int .u8 (x.f : Int)] 44)).grown hgrow (by simp; omega) (fun k hk => by have := (HO1.out.lt k hk).1; omega)); have HO3 := Lib.hid hown'; have HM3 := Lib.hid ((HM2.out.below (below_al w2 (.cells #[.int .i64 x.k, .int .u32 (x.u : Int), .int .u8 (x.f : Int)] 44))).kept hgrow (fun e => by have := (HO1.out.lt _ e.symm).1; omega)); clear hown' hgrow)
            go_roundw
            case rel => exact ⟨k + 1, by omega, by go_num, O ++ [x], Lib.hid (by rw [List.length_append]; simp; omega), Lib.hid (by rw [List.length_append, flatL_append]; exact HO3.out), HM3, HB3, HF⟩
            case measure => simp [intOf]; omega
        · obtain rfl : k = l.length := by omega
          have HF := Lib.hid (show O = sqE l by have := hE.out; rw [List.drop_length] at this; simpa [sqE] using this)
          clear hE
          go_wp2_with fail
          go_ret
          rw [← HF.out]
          exact ⟨_, rfl, own_mono hrow.out (by omega), hB.out⟩
end
end Go.Proofs.YthdbbappojkmoaaGreat

namespace Go.Proofs.YthdbbappojkmoaaGreat
open Go.RowKit

/-- The queue in block g, its row at A with capacity c, its blocks S: it has the events q. -/
structure QR (g : Nat) (S : Nat → Prop) (A : Option Addr) (c : Nat) (q : List EvI) (w : World) : Prop where
  tb : w.heap[g]? = some (.cells #[.slice A q.length c] 116 (0, 0))
  row : w.ownsRow 0 44 3 (.slice A q.length c) q.length (flatL encEv q)
  sg : S g
  sa : ∀ a, A = some a → S a.block ∧ a.block ≠ g
  lt : ∀ k, S k → k < w.heap.size
  ok : ∀ x ∈ q, evOk x
def QT (g : Nat) (S : Nat → Prop) (q : List EvI) (w : World) : Prop := ∃ A c, QR g S A c q w
/-- A row lies where its block lies. -/
theorem own_lies {w w' : World} {base n m c sz : Nat} {T : TypeId} {A : Option Addr} {xs : List Value} (h : w.ownsRow base T sz (.slice A m c) n xs) (hb : ∀ a, A = some a → w'.heap[a.block]? = w.heap[a.block]?) : w'.ownsRow base T sz (.slice A m c) n xs := by
  refine ⟨h.1, h.2.imp id ?_⟩
  rintro ⟨k, cap, cur, h1, h2, h3, h4⟩
  have hA : A = some ⟨k, 0, none⟩ := by injection h1
  exact ⟨k, cap, cur, h1, h2, (hb _ hA).trans h3, h4⟩
theorem own_blk15 {w : World} {base n m c sz : Nat} {T : TypeId} {A : Option Addr} {xs : List Value} (h : w.ownsRow base T sz (.slice A m c) n xs) {a : Addr} (ha : A = some a) : base ≤ a.block ∧ a.block < w.heap.size := by
  rcases h.2 with ⟨e, _⟩ | ⟨g, cap, cur, e, hb, h5, _⟩
  · injection e with e
    rw [e] at ha
    cases ha
  · injection e with e
    rw [e] at ha
    cases ha
    exact ⟨hb, (Array.getElem?_eq_some_iff.1 h5).1⟩
section
variable {P : Program} (w : World)
/-- The append of nothing onto an own row. -/
theorem wpList_append_nil {ops : Array Oper} {rest : List Oper} {o : Oper} {a : Act} {Q : Exit → Act → World → Prop} (hgd : o.guard = none) (s x : Operand) (t : TypeId)
    (ho : o.op = .call { callee := .builtin .append, args := #[s, x], argTypes := #[t, t] })
    (base size : Nat) (e : TypeId) (i : TypeInfo) (ht : P.underlying t = some (.slice e)) (hi : P.info? e = some i)
    (v : Value) (n : Nat) (xs : List Value) (hs : a.eval s = v) (hown : w.ownsRow base e size v n xs) (c : Nat) (hx : a.eval x = .slice none 0 c)
    (h : wpList P ops Q rest (a.put o.dst v) w) : wpList P ops Q (o :: rest) a w := by
  have hrun := append_none (P := P) w base t o.type e i ht hi v n xs hown c
  refine wpList_plain hgd fun K hK => ?_
  unfold Oper.wp execOp
  simp only [ho, resolve, invoke, builtin, Sem.run_bind, Sem.run_pure, Result.andThen_ok, List.map_toArray, List.map_cons, List.map_nil, hs, hx, hrun]
  exact hK _ _ h
end
section
variable {g c : Nat} {S S' : Nat → Prop} {A : Option Addr} {q : List EvI} {w w' : World}
theorem QR.keep (h : QR g S A c q w) (hs : w.heap.size ≤ w'.heap.size) (hb : ∀ k, S k → w'.heap[k]? = w.heap[k]?) : QR g S A c q w' :=
  ⟨(hb _ h.sg).trans h.tb, own_lies h.row fun a ha => hb _ (h.sa a ha).1, h.sg, h.sa, fun k hk => Nat.lt_of_lt_of_le (h.lt k hk) hs, h.ok⟩
theorem QR.below (h : QR g S A c q w) (hb : Below w.heap.size w w') : QR g S A c q w' := h.keep hb.size fun k e => hb.block k (h.lt k e)
theorem QR.cell (h : QR g S A c q w) : w.cell? ⟨g, 0, none⟩ = some (.slice A q.length c) := cell_of_row _ _ 0 _ _ _ h.tb
theorem QR.fz (h : QR g S A c q w) : w.frozen? ⟨g, 0, none⟩ = false := Joins.unfrozen_of_block h.tb 0
theorem QT.lt (h : QT g S q w) : ∀ k, S k → k < w.heap.size := by
  obtain ⟨A, c, h⟩ := h
  exact h.lt
theorem QT.kept (h : QT g S q w) (hk : KeptO S' w w') (hS : ∀ k, S k → ¬ S' k) : QT g S q w' := by
  obtain ⟨A, c, h⟩ := h
  exact ⟨A, c, h.keep hk.size fun k e => hk.block k (h.lt k e) (hS k e)⟩
/-- Behind a store of another row into the queue: this row lies in a block of the set or in a new one. -/
theorem QR.set {A' : Option Addr} {c' : Nat} {q' : List EvI} {W : World} (h : QR g S A c q w) (hk : KeptO (fun k => ∃ a, A = some a ∧ a.block = k) w W) (hr : W.ownsRow 0 44 3 (.slice A' q'.length c') q'.length (flatL encEv q'))
    (hA : ∀ a, A' = some a → (∃ a0, A = some a0 ∧ a0.block = a.block) ∨ w.heap.size ≤ a.block) (hok : ∀ x ∈ q', evOk x) :
    QR g (fun k => k = g ∨ ∃ a, A' = some a ∧ a.block = k) A' c' q' (W.setCell ⟨g, 0, none⟩ (.slice A' q'.length c')) ∧ MoreQ S (fun k => k = g ∨ ∃ a, A' = some a ∧ a.block = k) w ∧ KeptO S w (W.setCell ⟨g, 0, none⟩ (.slice A' q'.length c')) := by
  have hgl := h.lt g h.sg
  have hne : ∀ a, A' = some a → a.block ≠ g := fun a ha e => by
    rcases hA a ha with ⟨a0, h0, e0⟩ | e0
    · exact (h.sa a0 h0).2 (e0.trans e)
    · omega
  have ht : W.heap[g]? = some (.cells #[.slice A q.length c] 116 (0, 0)) := (hk.block g hgl (fun ⟨a, ha, e⟩ => (h.sa a ha).2 e)).trans h.tb
  have hg := grown_setCell W g 0 (.slice A' q'.length c')
  have hsz : (W.setCell ⟨g, 0, none⟩ (.slice A' q'.length c')).heap.size = W.heap.size := by simp
  refine ⟨⟨by simpa using Joins.block_setCell (i := 0) ht (.slice A' q'.length c'), own_lies hr fun a ha => hg.block _ (own_blk15 hr ha).2 (fun e => hne a ha (Option.some.inj e)), .inl rfl, fun a ha => ⟨.inr ⟨a, ha, rfl⟩, hne a ha⟩, ?_, hok⟩, ?_, ?_⟩
  · rintro k (rfl | ⟨a, ha, rfl⟩)
    · rw [hsz]; exact Nat.lt_of_lt_of_le hgl hk.size
    · rw [hsz]; exact (own_blk15 hr ha).2
  · rintro k (rfl | ⟨a, ha, rfl⟩)
    · exact .inl h.sg
    · rcases hA a ha with ⟨a0, h0, e0⟩ | e0
      · exact .inl (e0 ▸ (h.sa a0 h0).1)
      · exact .inr e0
  · exact (hk.mono (fun k ⟨a, ha, e⟩ => e ▸ (h.sa a ha).1)).trans (KeptO.of_grown (S := S) hg (fun r hr => by cases hr; exact h.sg)) fun _ e => .inl e
set_option maxRecDepth 100000 in
theorem qnew_any (w : World) : Calls Tryz.prog 31 #[] w fun e w' => ∃ g S, e = .returned (.pointer (some ⟨g, 0, none⟩)) ∧ QT g S [] w' ∧ (∀ k, S k → w.heap.size ≤ k) ∧ Below w.heap.size w w' := by
  have HQ : Hid (QR w.heap.size (fun k => k = w.heap.size) none 0 [] (w.alloc (.cells #[.slice none 0 0] 116))) := Lib.hid ⟨heap_alloc_new _ _, World.ownsRow_nil _ _ _ _, rfl, fun a h => by (cases h), fun k hk => by rw [hk]; simp, fun x hx => by cases hx⟩
  have HB := Lib.hid (below_al w (.cells #[.slice none 0 0] 116))
  go_enter Tryz.func31, Tryz.ntmps31
  go_wp2_with fail
  go_ret
  exact ⟨_, _, rfl, ⟨_, _, HQ.out⟩, fun k hk => Nat.le_of_eq hk.symm, HB.out⟩
set_option maxRecDepth 100000 in
set_option maxHeartbeats 1000000 in
theorem qpush_any (A : Option Addr) (c : Nat) (l : List EvI) (hl : l.length ≤ 1000) (hq : q.length ≤ 100000) (hok : ∀ x ∈ l, evOk x) (hS : SlAt encEv 3 w A l) (_hO : l = [] ∨ Out S A) (h : QT g S q w) :
    Calls Tryz.prog 35 #[.pointer (some ⟨g, 0, none⟩), .slice A l.length c] w fun e w' => ∃ S', e = .returned (.tuple #[]) ∧ QT g S' (pushE q l) w' ∧ MoreQ S S' w ∧ KeptO S w w' := by
  obtain ⟨A0, c0, h⟩ := h
  obtain ⟨i0, hi, hz0, hz1, hz2⟩ := info_parts infoEv
  have D := Lib.hid (divide_any (F := 56) (cs := #[]) (p := knownE) (KW := fun _ => True) (c := c) (fun args w => by simp [go_sem]) (by omega) hS trivial (fun _ _ _ => trivial) (fun x hx W _ => known_any x (hok x hx) W))
  have HKN := Lib.hid (show ∀ x ∈ l.filter knownE, evOk x from fun x hx => hok x (List.mem_filter.1 hx).1)
  have HLN := Lib.hid (Nat.le_trans (List.length_filter_le knownE l) hl)
  have HPU := Lib.hid (show pushE q l = q ++ l.filter knownE from rfl)
  have H := Lib.hid h
  clear h hS hok
  generalize pushE q l = P at *
  generalize l.filter knownE = K at *
  go_enter Tryz.func35, Tryz.ntmps35
  go_wp2_with fail
  refine D.out.mono ?_
  rintro e w1 ⟨A1, A2, c1, c2, rfl, k1, -, kb⟩
  have HB := Lib.hid kb
  have h1 := H.out.below kb
  have hln := HLN.out
  cases A1 with
  | none =>
    obtain rfl : K = [] := by
      rcases k1.2 with ⟨_, e⟩ | ⟨b, cap, cur, e, _⟩
      · exact List.eq_nil_of_length_eq_zero e
      · injection e with e
        cases e
    have hc := h1.cell
    have hf := h1.fz
    have HRW := Lib.hid h1.row
    have HN := Lib.hid (h1.set (A' := A0) (c' := c0) (q' := q) (KeptO.refl _ _) h1.row (fun a ha => .inl ⟨a, ha, rfl⟩) h1.ok)
    have HPQ := Lib.hid (show P = q by rw [HPU.out, List.append_nil])
    clear k1 kb h1 D H HKN HPU
    go_wp2_with (at_builtin; refine wpList_append_nil _ rfl _ _ 41 rfl 0 3 44 i0 Tryz.underlying41 hi _ _ _ rfl HRW.out c1 rfl ?_)
    refine bodyPost_end (results_none rfl _ _ _) rfl ?_
    obtain ⟨n1, n2, n3⟩ := HN.out
    rw [HPQ.out]
    exact ⟨_, rfl, ⟨_, _, n1⟩, fun k hk => (n2 k hk).imp id (Nat.le_trans HB.out.size), KeptO.after_below HB.out n3⟩
  | some ad =>
    have hc := h1.cell
    have hf := h1.fz
    have HRW := Lib.hid h1.row
    have HSE := Lib.hid (SlAt.of_own encEv_len k1)
    have h63 : q.length + K.length ≤ maxLen := by unfold maxLen; omega
    have h64 : (q.length + K.length) * 16 ≤ 140737488355328 := by omega
    have H1 := Lib.hid h1
    clear k1 kb h1 D H
    have KEY := Lib.hid (fun (A3 : Option Addr) (c3 : Nat) (wz : World) (ho : wz.ownsRow 0 44 3 (.slice A3 (q.length + K.length) c3) (q.length + K.length) (flatL encEv q ++ flatL encEv K)) (hg : w1.grownBy wz (Value.slice A0 q.length c0).ownBlock) (hfr : (Value.slice A3 (q.length + K.length) c3).ownBlock = (Value.slice A0 q.length c0).ownBlock ∨ (Value.slice A3 (q.length + K.length) c3).ownBlock = some w1.heap.size) =>
      (show wz.cell? ⟨g, 0, none⟩ = some (.slice A0 q.length c0) ∧ wz.frozen? ⟨g, 0, none⟩ = false ∧ QR g (fun k => k = g ∨ ∃ a, A3 = some a ∧ a.block = k) A3 c3 P (wz.setCell ⟨g, 0, none⟩ (.slice A3 (q.length + K.length) c3)) ∧ MoreQ S (fun k => k = g ∨ ∃ a, A3 = some a ∧ a.block = k) w1 ∧ KeptO S w1 (wz.setCell ⟨g, 0, none⟩ (.slice A3 (q.length + K.length) c3)) from by
        have hob : ∀ (A : Option Addr) n c, (Value.slice A n c).ownBlock = A.map Addr.block := fun A n c => by cases A <;> rfl
        rw [hob] at hg
        rw [hob, hob] at hfr
        have hk : KeptO (fun k => ∃ a, A0 = some a ∧ a.block = k) w1 wz := KeptO.of_grown hg fun r hr => by
          cases hA : A0 with
          | none => rw [hA] at hr; cases hr
          | some a => rw [hA] at hr; exact ⟨a, rfl, Option.some.inj hr⟩
        have hgb := (hk.block g (H1.out.lt g H1.out.sg) (fun ⟨a, ha, e⟩ => (H1.out.sa a ha).2 e)).trans H1.out.tb
        have hl : q.length + K.length = P.length := by rw [HPU.out, List.length_append]
        have hr' : wz.ownsRow 0 44 3 (.slice A3 P.length c3) P.length (flatL encEv P) := by
          rw [← hl, HPU.out, flatL_append]
          exact ho
        have hs := H1.out.set (A' := A3) (c' := c3) (q' := P) hk hr' (fun a ha => by
          rw [ha] at hfr
          rcases hfr with e | e
          · cases hA : A0 with
            | none => rw [hA] at e; cases e
            | some a0 => rw [hA] at e; exact .inl ⟨a0, rfl, (Option.some.inj e).symm⟩
          · exact .inr (Nat.le_of_eq (Option.some.inj e).symm)) (fun x hx => by
          rw [HPU.out] at hx
          rcases List.mem_append.1 hx with e | e
          · exact H1.out.ok x e
          · exact HKN.out x e)
        rw [hl]
        exact ⟨cell_of_row _ _ 0 _ _ _ hgb, Joins.unfrozen_of_block hgb 0, hs⟩))
    go_wp2_with (at_builtin; refine wpList_append_slg _ rfl _ _ 41 rfl 0 44 i0 _ 16 Tryz.underlying41 hi hz0 hz1 hz2 rfl (by decide) _ q.length _ rfl HRW.out ad K K.length c1 rfl rfl encEv_len HSE.out (one_flatEv _) h63 h64 (Nat.zero_le _) ?_; intro v' wz hown' hgrow hfr; obtain ⟨A3, c3, rfl⟩ := own_any hown'; obtain ⟨y0, y1, y2⟩ := KEY.out _ _ _ hown' hgrow hfr; have HY := Lib.hid y2; clear hown' hgrow hfr y2)
    refine bodyPost_end (results_none rfl _ _ _) rfl ?_
    obtain ⟨n1, n2, n3⟩ := HY.out
    exact ⟨_, rfl, ⟨_, _, n1⟩, fun k hk => (n2 k hk).imp id (Nat.le_trans HB.out.size), KeptO.after_below HB.out n3⟩
set_option maxRecDepth 100000 in
set_option maxHeartbeats 1000000 in
theorem qflush_any (gone : Bool) (hq : q.length ≤ 100000) (h : QT g S q w) :
    Calls Tryz.prog 40 #[.pointer (some ⟨g, 0, none⟩), .bool gone] w fun e w' => ∃ (S' : Nat → Prop) (A : Option Addr) (c : Nat), e = .returned (.slice A (sqE (toldE gone q)).length c) ∧ w'.ownsRow 0 44 3 (.slice A (sqE (toldE gone q)).length c) (sqE (toldE gone q)).length (flatL encEv (sqE (toldE gone q))) ∧
      (∀ a, A = some a → ¬ S' a.block ∧ (S a.block ∨ w.heap.size ≤ a.block)) ∧ QT g S' (restE gone q) w' ∧ MoreQ S S' w ∧ KeptO S w w' := by
  obtain ⟨A0, c0, h⟩ := h
  have hB0 := below_al w (.cells #[.bool gone] 4)
  have hn := heap_alloc_new w (.cells #[.bool gone] 4)
  have h0 := h.below hB0
  have hc := h0.cell
  have D := Lib.hid (divide_any (F := 62) (cs := #[.pointer (some ⟨w.heap.size, 0, none⟩)]) (p := fun e => gone || decide (e.k ≠ 2)) (KW := fun W => W.cell? ⟨w.heap.size, 0, none⟩ = some (.bool gone)) (c := c0) (l := q) (fun args w => by simp [go_sem]) (by omega) (SlAt.of_own encEv_len h0.row) (cell_of_row _ _ 0 _ _ _ hn)
    (fun W k b => (b.cell (p := ⟨w.heap.size, 0, none⟩) (World.block_lt_of_cell? _ _ k)).trans k) (fun x _ W k => told_any x w.heap.size gone W k))
  rw [show (q.filter fun e => gone || decide (e.k ≠ 2)) = toldE gone q from rfl, show (q.filter fun e => !(gone || decide (e.k ≠ 2))) = restE gone q from rfl] at D
  have HH := Lib.hid h
  have H0 := Lib.hid h0
  have HB0 := Lib.hid hB0
  have HTO := Lib.hid (show ∀ x ∈ toldE gone q, evOk x from fun x hx => h.ok x (List.mem_filter.1 hx).1)
  have HRO := Lib.hid (show ∀ x ∈ restE gone q, evOk x from fun x hx => h.ok x (List.mem_filter.1 hx).1)
  have HTL := Lib.hid (Nat.le_trans (toldE_len gone q) hq)
  clear h h0 hn hB0
  generalize toldE gone q = T at *
  generalize restE gone q = R at *
  generalize hw0 : w.alloc (.cells #[.bool gone] 4) = w0 at *
  have HW0 := Lib.hid hw0
  clear hw0
  go_enter Tryz.func40, Tryz.ntmps40
  go_upto_region 1 with (fail)
  rw [HW0.out]
  go_wp2_with fail
  refine D.out.mono ?_
  rintro e w1 ⟨A1, A2, c1, c2, rfl, k1, k2, kb⟩
  have hs := H0.out.set (A' := A2) (c' := c2) (q' := R) (KeptO.of_below kb) (own_mono k2 (Nat.zero_le _)) (fun a ha => .inr (own_blk15 k2 ha).1) HRO.out
  have h1 := H0.out.below kb
  have hc1 := h1.cell
  have hf1 := h1.fz
  have hgl := H0.out.lt g H0.out.sg
  have hT : SlAt encEv 3 (w1.setCell ⟨g, 0, none⟩ (.slice A2 R.length c2)) A1 T := SlAt.of_own encEv_len (own_lies k1 fun a ha => (grown_setCell w1 g 0 _).block _ (own_blk15 k1 ha).2 (fun e => by
    have := (own_blk15 k1 ha).1
    have := Option.some.inj e
    omega))
  have SQ := Lib.hid (qsqueeze_any A1 c1 T HTL.out HTO.out _ hT)
  have HS := Lib.hid hs
  clear hs h1 k1 k2 kb D hc hT
  go_wp2_with fail
  refine SQ.out.mono ?_
  rintro e w3 ⟨v, rfl, k3, b3⟩
  obtain ⟨A3, c3, rfl⟩ := own_any k3
  obtain ⟨s1, s2, s3⟩ := HS.out
  have F1 := Lib.hid (own_mono k3 (Nat.zero_le _))
  have F2 := Lib.hid (fun a ha => (own_blk15 k3 (a := a) ha).1)
  have F3 := Lib.hid (s1.below b3)
  have F4 := Lib.hid (s3.then_below b3)
  have F5 := Lib.hid s1.lt
  have F6 := Lib.hid s2
  have F7 := Lib.hid (Nat.le_trans HB0.out.size s3.size)
  clear k3 b3 s1 s2 s3 HS SQ
  go_wp2_with fail
  go_ret
  refine ⟨_, A3, c3, rfl, F1.out, fun a ha => ⟨fun hS => ?_, .inr (Nat.le_trans F7.out (F2.out a ha))⟩, ⟨_, _, F3.out⟩, fun k hk => (F6.out k hk).imp id (Nat.le_trans HB0.out.size), KeptO.after_below HB0.out F4.out⟩
  have := F2.out a ha
  have := F5.out _ hS
  omega
end
set_option maxRecDepth 100000 in
theorem qpush_nil (A : Option Addr) (c : Nat) (l : List EvI) (_hl : l.length ≤ 1000) (w : World) (_hS : SlAt encEv 3 w A l) : Calls Tryz.prog 35 #[.pointer none, .slice A l.length c] w fun e w' => e = .returned (.tuple #[]) ∧ Below w.heap.size w w' := by
  go_enter Tryz.func35, Tryz.ntmps35
  go_wp2_with fail
  refine bodyPost_ret (results_none rfl _ _ _) rfl ?_
  exact ⟨rfl, Below.refl _ _⟩
set_option maxRecDepth 100000 in
theorem qflush_nil0 (gone : Bool) (w : World) : Calls Tryz.prog 40 #[.pointer none, .bool gone] w fun e w' => e = .returned (.slice none 0 0) ∧ Below w.heap.size w w' := by
  have HB := Lib.hid (below_al w (.cells #[.bool gone] 4))
  go_enter Tryz.func40, Tryz.ntmps40
  go_wp2_with fail
  go_ret
  exact ⟨rfl, HB.out⟩
theorem qflush_nil (gone : Bool) (w : World) : Calls Tryz.prog 40 #[.pointer none, .bool gone] w fun e w' => ∃ A c, e = .returned (.slice A 0 c) ∧ Below w.heap.size w w' :=
  (qflush_nil0 gone w).mono fun _ _ h => ⟨_, _, h.1, h.2⟩
end Go.Proofs.YthdbbappojkmoaaGreat
