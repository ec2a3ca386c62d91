/- The law StoreFollows. -/
import Derived.Test.YthdbbappojkmoaaGreatHx
import Derived.Test.YthdbbappojkmoaaGreatSxE
import Derived.Test.YthdbbappojkmoaaGreatOp16
import Derived.Test.YthdbbappojkmoaaGreatDl16
import Derived.Test.YthdbbappojkmoaaGreatSlEqW
namespace Go.Proofs.YthdbbappojkmoaaGreat
open Go.RowKit

/-- Behind k calls: the list with the events is that of the identifiers; bounds. -/
structure Fw (own : Int) (k : Nat) (L : List Nat) (st : StP) : Prop where
  fol : FolI own L st
  small : smallP st (20 * k)
  cap : st.cap = 20
  len : L.length ≤ 20
section
variable {own : Int} {k : Nat} {L : List Nat} {st : StP}
theorem Fw.app (h : Fw own k L st) (hw : own ≠ -1) (f : Nat) (b : List UInt8) : Fw own (k + 1) L (appP st f b).1 := ⟨h.fol.app hw f b, (h.small.app f b).mono (by omega), (app_cap st f b).trans h.cap, h.len⟩
theorem Fw.chg (h : Fw own k L st) (by_ : Int) (u : Nat) (mode : Int) (f : Nat) : Fw own (k + 1) L (chgP st by_ u mode f).1 := ⟨h.fol.chg by_ u mode f, (h.small.chg by_ u mode f).mono (by omega), (chg_cap st by_ u mode f).trans h.cap, h.len⟩
theorem Fw.exp (h : Fw own k L st) (ha : ascP st) (hm : st.ms.length ≤ st.cap) : Fw own (k + 1) L (expP st) := ⟨h.fol.exp ha, h.small.exp.mono (by have := h.cap; omega), h.cap, h.len⟩
theorem Fw.flush (h : Fw own k L st) (hm : st.ms.length ≤ st.cap) : Fw own (k + 1) (uidsP st) (flushP st own true) := ⟨h.fol.flush, (h.small.flush own true).mono (by omega), h.cap, by unfold uidsP; rw [List.length_map]; have := h.cap; omega⟩
theorem Fw.skip (h : Fw own k L st) : Fw own (k + 1) L st := ⟨h.fol, h.small.mono (by omega), h.cap, h.len⟩
theorem Fw.evs (h : Fw own k L st) : (sqE (toldE true (evsP st own))).foldl folE L = uidsP st := by
  rw [told_all, sq_fold]
  exact h.fol.evs
theorem Fw.evl (h : Fw own k L st) : (sqE (toldE true (evsP st own))).length ≤ 20 * k := by
  obtain ⟨q, h1, _⟩ := h.fol
  have h2 := h.small own q h1
  have h3 := sqE_len (toldE true (evsP st own))
  rw [told_all] at h3
  have h4 : evsP st own = q := by unfold evsP; rw [h1]; rfl
  rw [told_all]
  rw [h4] at h3 ⊢
  omega
end
theorem sub_cap (st : StP) (id : Int) : (subP st id).1.cap = st.cap := by
  unfold subP
  split
  · rfl
  · split <;> rfl
theorem few16_body {l : List O16} (h : few16 l = true) : ∀ o ∈ l, o.b.length ≤ 200 := by
  unfold few16 at h
  rw [Bool.and_eq_true] at h
  intro o ho
  simpa using List.all_eq_true.1 h.1 o ho
set_option maxRecDepth 100000 in
set_option maxHeartbeats 2000000 in
theorem follows_main (A : Option Addr) (c : Nat) (l : List O16) (hl : l.length ≤ 60) (hok : ∀ o ∈ l, O16ok o) (hfew : few16 l = true) (id : Nat) (hid : id ≤ 255) (w : World) (hS : SlAt enc16 6 w A l) (hB : ∀ o ∈ l, ByAt w.heap.size w o.A o.c o.b) :
    Calls Tryz.prog 3 #[.slice A l.length c, .int .u8 id] w fun e w' => e = .returned (.bool true) ∧ Below w.heap.size w w' := by
  obtain ⟨i0, hi, hz0, hz1, hz2⟩ := info_parts infoU
  have FW := few16_any l A c (by unfold maxLen; omega) w hS
  rw [if_pos hfew] at FW
  have FW := Lib.hid FW
  have N := Lib.hid (fun W => sx_new 3 20 1 (by decide) (by decide) (by decide) W)
  have AL := Lib.hid (fun W => alive16_any W)
  have HS := Lib.hid hS
  have HBY := Lib.hid hB
  have HOK := Lib.hid hok
  have hw1 : IntKind.i64.wrap (id : Int) = (id : Int) := IntWalk.i64_in _ (by omega)
  obtain ⟨own, hown⟩ : ∃ own : Int, 1000 + (id : Int) = own := ⟨_, rfl⟩
  have hw2 : IntKind.i64.wrap (1000 + (id : Int)) = own := by rw [← hown]; exact IntWalk.i64_in _ (by omega)
  have ho0 : 0 ≤ own ∧ own ≤ 1255 := by omega
  clear hS hB hok hown hfew
  go_enter Tryz.func3, Tryz.ntmps3
  go_wp2_with fail
  refine FW.out.mono ?_
  rintro e w1 ⟨rfl, hb1⟩
  have HB1 := Lib.hid hb1
  clear hb1 FW
  go_wp2_with fail
  refine (N.out _).mono ?_
  rintro e w2 ⟨g, rfl, x2⟩
  have hF := FolI.start (own := own) (newP 3 20 1) ho0.1 rfl
  have C2 := x2.subs own (by omega) hF.1 (fewP.new _ _ _)
  rw [show uidsP (newP 3 20 1) = [] from rfl] at C2
  have C2 := Lib.hid C2
  have F0 := Lib.hid (show Fw own 0 [] (subP (newP 3 20 1) own).1 from ⟨hF.2, (smallP_new 3 20 1).sub own, sub_cap _ _, by simp⟩)
  generalize (subP (newP 3 20 1) own).1 = st0 at *
  clear x2 hF N
  go_wp2_with fail
  refine C2.out.mono ?_
  rintro e w3 ⟨A3, c3, rfl, x3⟩
  have X3 := Lib.hid x3
  clear x3 C2
  go_wp2_with fail
  go_loopw [31, 7] (fun i v7 wr => ∃ k : Nat, k ≤ l.length ∧ i = .int .i64 k ∧ ∃ (st : StP) (L : List Nat) (A7 : Option Addr) (c7 : Nat), v7 = .slice A7 L.length c7 ∧ Hid (Fw own k L st) ∧ Hid (OX w1.heap.size (ST g st) [u32I w1.heap.size A7 c7 L] w1 wr)) (fun i _ _ => l.length - (intOf i).toNat)
  case atStart => exact ⟨0, Nat.zero_le _, rfl, st0, [], A3, c3, rfl, F0, X3⟩
  case round =>
    obtain ⟨k, hk, rfl, st, L, A7, c7, rfl, hf, hx⟩ := hrel
    have hk0 : (0 : Int) ≤ (k : Int) := by omega
    clear F0 X3
    by_cases hlt : k < l.length
    · have hk1 : (k : Int) < (l.length : Int) := by omega
      have HBw := Lib.hid (HB1.out.trans (hx.out.be.mono HB1.out.size))
      obtain ⟨b, off, rfl, hb, c0, c1, c2, c3, c4, c5⟩ := (HS.out.below HBw.out).op16 hlt
      have ok := HOK.out l[k] (List.getElem_mem hlt)
      have hby := HBY.out l[k] (List.getElem_mem hlt)
      have hby2 := hby.below HBw.out
      generalize l[k] = o at *
      have D0 := below_al wr (.cells #[.int .i64 o.kind, .int .i64 o.id, .int .u32 (o.u : Int), .int .i64 o.mode, .int .u8 (o.f : Int), .slice o.A o.b.length o.c] 35)
      have x1 := hx.out.bel D0
      have hgood := hx.out.good
      by_cases k0 : o.kind = 0
      · rw [k0] at D0 x1 c0
        have F1 := Lib.hid (hf.out.app (by omega) o.f o.b)
        have C := Lib.hid (x1.app o.f ok.f o.A o.c o.b ((hby2.mono HBw.out.size).below D0).here (hby.lies.imp (fun h => h) fun ⟨b, off, hA, hb, _⟩ => .inl fun a ha => by rw [hA] at ha; cases ha; exact Nat.lt_of_lt_of_le hb HB1.out.size) (hf.out.small.mono (by omega)))
        generalize (appP st o.f o.b).1 = st1 at *
        clear hf hx x1 hgood ok hby hby2 D0
        go_wp2_with fail
        refine C.out.mono ?_
        rintro e w4 ⟨rfl, x4⟩
        have X4 := Lib.hid x4
        clear x4 C
        go_wp2_with fail
        go_roundw
        case rel => exact ⟨k + 1, by omega, by go_num, st1, L, A7, c7, rfl, F1, X4⟩
        case measure => simp [intOf]; omega
      · have qo0 : (o.kind == 0) = false := beq_eq_false_iff_ne.2 k0
        by_cases k1 : o.kind = 1
        · rw [k1] at D0 x1 c0
          have F1 := Lib.hid (hf.out.chg o.id o.u o.mode o.f)
          have C := Lib.hid (x1.chg o.id ok.id o.u ok.u o.mode ok.mode o.f ok.f (hf.out.small.mono (by omega)))
          generalize (chgP st o.id o.u o.mode o.f).1 = st1 at *
          clear hf hx x1 hgood ok hby hby2 D0
          go_wp2_with fail
          refine C.out.mono ?_
          rintro e w4 ⟨rfl, x4⟩
          have X4 := Lib.hid x4
          clear x4 C
          go_wp2_with fail
          go_roundw
          case rel => exact ⟨k + 1, by omega, by go_num, st1, L, A7, c7, rfl, F1, X4⟩
          case measure => simp [intOf]; omega
        · have qo1 : (o.kind == 1) = false := beq_eq_false_iff_ne.2 k1
          by_cases k2 : o.kind = 2
          · rw [k2] at D0 x1 c0
            have F1 := Lib.hid (hf.out.exp hgood.2.2.2.1 hgood.2.1)
            have C := Lib.hid (x1.exp (hf.out.small.mono (by omega)))
            generalize expP st = st1 at *
            clear hf hx x1 hgood ok hby hby2 D0
            go_wp2_with fail
            refine C.out.mono ?_
            rintro e w4 ⟨A9, c9, rfl, x4⟩
            have X4 := Lib.hid x4.drop
            clear x4 C
            go_wp2_with fail
            go_roundw
            case rel => exact ⟨k + 1, by omega, by go_num, st1, L, A7, c7, rfl, F1, X4⟩
            case measure => simp [intOf]; omega
          · have qo2 : (o.kind == 2) = false := beq_eq_false_iff_ne.2 k2
            by_cases k5 : o.kind = 5
            · rw [k5] at D0 x1 c0
              have F1 := Lib.hid (hf.out.flush hgood.2.1)
              have HQ := Lib.hid hf.out.evs
              have hQl := hf.out.evl
              have hL := hf.out.len
              have hUl := F1.out.len
              have C := x1.flushA own (by omega) true (hf.out.small.mono (by omega))
              have HU := Lib.hid (show uidsP (flushP st own true) = uidsP st from rfl)
              generalize sqE (toldE true (evsP st own)) = Q at *
              have C := Lib.hid C
              generalize flushP st own true = st1 at *
              generalize uidsP st = U at *
              clear hf hx x1 hgood ok hby hby2 D0
              go_wp2_with fail
              refine C.out.mono ?_
              rintro e w4 ⟨A8, c8, rfl, x4, hap⟩
              have X4 := Lib.hid (show OX w1.heap.size (ST g st1) [u32I w1.heap.size A7 c7 L, evI w1.heap.size A8 c8 Q] w1 w4 from x4.sub (by intro it h; simp at h ⊢; exact h.symm))
              have AP4 := Lib.hid (show ApI (evI w1.heap.size A8 c8 Q) (u32I w1.heap.size A7 c7 L) from hap _ (List.mem_singleton.2 rfl))
              clear x4 hap C
              go_wp2_with fail
              generalize wr = wo at *
              go_loopw [68, 7] (fun i v7 wr => ∃ j : Nat, j ≤ Q.length ∧ i = .int .i64 j ∧ ∃ (M : List Nat) (A9 : Option Addr) (c9 : Nat), v7 = .slice A9 M.length c9 ∧ Hid (M = (Q.take j).foldl folE L) ∧ Hid (OX w1.heap.size (ST g st1) [u32I w1.heap.size A9 c9 M, evI w1.heap.size A8 c8 Q] w1 wr) ∧ Hid (ApI (evI w1.heap.size A8 c8 Q) (u32I w1.heap.size A9 c9 M))) (fun i _ _ => Q.length - (intOf i).toNat)
              case atStart => exact ⟨0, Nat.zero_le _, rfl, L, A7, c7, rfl, Lib.hid rfl, X4, AP4⟩
              case round =>
                obtain ⟨j, hj, rfl, M, A9, c9, rfl, hM, hx, hap⟩ := hrel
                have hj0 : (0 : Int) ≤ (j : Int) := by omega
                have hMl : M.length ≤ 1300 := by
                  rw [hM.out]
                  have := folE_fold_len (Q.take j) L
                  have := List.length_take_le j Q
                  omega
                clear X4 AP4
                by_cases hltq : j < Q.length
                · have hj1 : (j : Int) < (Q.length : Int) := by omega
                  obtain ⟨b2, off2, rfl, _, y0, y1, y2⟩ := (hx.out.rdE (A := A8) (c := c8) (l := Q) (by simp)).ev hltq
                  have HM := Lib.hid (show folE M Q[j] = (Q.take (j + 1)).foldl folE L by rw [List.take_succ_eq_append_getElem hltq, List.foldl_append, ← hM.out]; rfl)
                  clear hM
                  generalize Q[j] = ev at *
                  have D1 := below_al wr (.cells #[.int .i64 ev.k, .int .u32 (ev.u : Int), .int .u8 (ev.f : Int)] 44)
                  have hsz1 : (wr.alloc (.cells #[.int .i64 ev.k, .int .u32 (ev.u : Int), .int .u8 (ev.f : Int)] 44)).heap.size = wr.heap.size + 1 := by simp
                  by_cases e1 : ev.k = 1
                  · rw [e1] at y0 D1 hsz1
                    have HF := Lib.hid (show M ++ [ev.u] = (Q.take (j + 1)).foldl folE L by rw [← HM.out]; unfold folE; rw [if_pos e1])
                    have D2 := below_al (wr.alloc (.cells #[.int .i64 1, .int .u32 (ev.u : Int), .int .u8 (ev.f : Int)] 44)) (.cells #[.int .u32 (ev.u : Int)] 27)
                    have D3 := D1.trans (D2.mono D1.size)
                    have HOW := Lib.hid (own_below (hx.out.it (u32I w1.heap.size A9 c9 M) (by simp)) D3)
                    have HSL := slAt_u1 (w := (wr.alloc (.cells #[.int .i64 1, .int .u32 (ev.u : Int), .int .u8 (ev.f : Int)] 44)).alloc (.cells #[.int .u32 (ev.u : Int)] 27)) (b := (wr.alloc (.cells #[.int .i64 1, .int .u32 (ev.u : Int), .int .u8 (ev.f : Int)] 44)).heap.size) (x := ev.u) (by rw [cell_of_row _ _ _ _ _ _ (heap_alloc_new _ _)]; rfl) (by simp)
                    rw [hsz1] at HSL
                    have HSL := Lib.hid HSL
                    have hba : w1.heap.size ≤ ((wr.alloc (.cells #[.int .i64 1, .int .u32 (ev.u : Int), .int .u8 (ev.f : Int)] 44)).alloc (.cells #[.int .u32 (ev.u : Int)] 27)).heap.size := Nat.le_trans hx.out.sz D3.size
                    have h63 : M.length + [ev.u].length ≤ maxLen := by show M.length + 1 ≤ 9223372036854775807; omega
                    have h64 : (M.length + [ev.u].length) * 4 ≤ 140737488355328 := by show (M.length + 1) * 4 ≤ _; omega
                    have HP := Lib.hid (fun (v' : Value) (w' : World) (ho : w'.ownsRow w1.heap.size 27 1 v' (M.length + [ev.u].length) (flatL encU M ++ flatL encU [ev.u])) (hg : ((wr.alloc (.cells #[.int .i64 1, .int .u32 (ev.u : Int), .int .u8 (ev.f : Int)] 44)).alloc (.cells #[.int .u32 (ev.u : Int)] 27)).grownBy w' (Value.slice A9 M.length c9).ownBlock) (hf : v'.ownBlock = (Value.slice A9 M.length c9).ownBlock ∨ v'.ownBlock = some ((wr.alloc (.cells #[.int .i64 1, .int .u32 (ev.u : Int), .int .u8 (ev.f : Int)] 44)).alloc (.cells #[.int .u32 (ev.u : Int)] 27)).heap.size) => show ∃ A' c', v' = Value.slice A' (M.length + 1) c' ∧ OX w1.heap.size (ST g st1) [u32I w1.heap.size A' c' (M ++ [ev.u]), evI w1.heap.size (some ⟨b2, off2, none⟩) c8 Q] w1 w' ∧ ApI (evI w1.heap.size (some ⟨b2, off2, none⟩) c8 Q) (u32I w1.heap.size A' c' (M ++ [ev.u])) from by
                      obtain ⟨A', c', rfl⟩ := own_any ho
                      exact ⟨A', c', rfl, hx.out.push2 hap.out D3 hg ho hf⟩)
                    clear hx hap D1 D2 D3 e1 HM
                    go_wp2_with (at_builtin; refine wpList_append_slg _ rfl _ _ 28 rfl w1.heap.size 27 i0 _ 4 Tryz.underlying28 hi hz0 hz1 hz2 rfl (by decide) _ M.length (flatL encU M) rfl HOW.out ⟨wr.heap.size + 1, 0, none⟩ [ev.u] 1 1 rfl rfl encU_len HSL.out (one_flatU _) h63 h64 hba ?_; intro v5 w5 hown5 hg5 hf5; obtain ⟨A5, c5, e5, x5, ap5⟩ := HP.out v5 w5 hown5 hg5 hf5; subst e5; have X5 := Lib.hid x5; have AP5 := Lib.hid ap5; clear hown5 hg5 hf5 x5 ap5 HP HOW HSL)
                    go_roundw
                    case rel => exact ⟨j + 1, by omega, by go_num, M ++ [ev.u], A5, c5, by simp, HF, X5, AP5⟩
                    case measure => simp [intOf]; omega
                  · have q1 : (ev.k == 1) = false := beq_eq_false_iff_ne.2 e1
                    by_cases e2 : ev.k = 2
                    · have HF := Lib.hid (show M.filter (fun x => !decide (x = ev.u)) = (Q.take (j + 1)).foldl folE L by rw [← HM.out]; unfold folE; rw [if_neg e1, if_pos e2])
                      rw [e2] at y0 D1 hsz1
                      have C := Lib.hid ((hx.out.bel D1).delC hap.out (by omega) (heap_alloc_new wr (.cells #[.int .i64 2, .int .u32 (ev.u : Int), .int .u8 (ev.f : Int)] 44)) (fun q hq => Nat.ne_of_lt ((u32I w1.heap.size A9 c9 M).lt wr (hx.out.it _ (by simp)) q hq)))
                      generalize M.filter (fun x => !decide (x = ev.u)) = M2 at *
                      clear hx hap D1 HM e1 e2 q1
                      go_wp2_with fail
                      refine C.out.mono ?_
                      rintro e w5 ⟨rfl, x5, ap5⟩
                      have X5 := Lib.hid x5
                      have AP5 := Lib.hid ap5
                      clear x5 ap5 C
                      go_wp2_with fail
                      go_roundw
                      case rel => exact ⟨j + 1, by omega, by go_num, M2, A9, c9, rfl, HF, X5, AP5⟩
                      case measure => simp [intOf]; omega
                    · have q2 : (ev.k == 2) = false := beq_eq_false_iff_ne.2 e2
                      have HF := Lib.hid (show M = (Q.take (j + 1)).foldl folE L by rw [← HM.out]; unfold folE; rw [if_neg e1, if_neg e2])
                      have X5 := Lib.hid (hx.out.bel D1)
                      clear hx D1 HM
                      go_wp2_with fail
                      go_roundw
                      case rel => exact ⟨j + 1, by omega, by go_num, M, A9, c9, rfl, HF, X5, hap⟩
                      case measure => simp [intOf]; omega
                · obtain rfl : j = Q.length := by omega
                  have hMU : M = U := by rw [hM.out, List.take_length]; exact HQ.out
                  subst hMU
                  have C := hx.out.uids
                  rw [HU.out] at C
                  have C := Lib.hid C
                  clear hx hap hM
                  go_wp2_with fail
                  refine C.out.mono ?_
                  rintro e w5 ⟨A5, c5, rfl, x5⟩
                  have E5 := equalU_any A9 A5 c9 c5 M M (by omega) (by omega) w5 (x5.rdU (c := c9) (by simp)) (x5.rdU (c := c5) (by simp))
                  rw [decide_eq_true rfl] at E5
                  have E5 := Lib.hid E5
                  have X5 := Lib.hid x5
                  clear x5 C
                  go_wp2_with fail
                  refine E5.out.mono ?_
                  rintro e w6 ⟨rfl, hb6⟩
                  have X6 := Lib.hid (show OX w1.heap.size (ST g st1) [u32I w1.heap.size A9 c9 M] w1 w6 from (X5.out.bel hb6).sub (by intro it h; simp at h ⊢; exact .inr (.inl h)))
                  clear hb6 X5 E5
                  go_wp2_with fail
                  go_roundw
                  case rel => exact ⟨k + 1, by omega, by go_num, st1, M, A9, c9, rfl, F1, X6⟩
                  case measure => simp [intOf]; omega
            · have qo5 : (o.kind == 5) = false := beq_eq_false_iff_ne.2 k5
              by_cases k6 : o.kind = 6
              · rw [k6] at D0 x1 c0
                have F1 := Lib.hid (hf.out.flush hgood.2.1)
                have HQ := Lib.hid hf.out.evs
                have hQl := hf.out.evl
                have hL := hf.out.len
                have hUl := F1.out.len
                have C := x1.flushA own (by omega) true (hf.out.small.mono (by omega))
                have HU := Lib.hid (show uidsP (flushP st own true) = uidsP st from rfl)
                generalize sqE (toldE true (evsP st own)) = Q at *
                have C := Lib.hid C
                generalize flushP st own true = st1 at *
                generalize uidsP st = U at *
                clear hf hx x1 hgood ok hby hby2 D0
                go_wp2_with fail
                refine C.out.mono ?_
                rintro e w4 ⟨A8, c8, rfl, x4, hap⟩
                have X4 := Lib.hid (show OX w1.heap.size (ST g st1) [u32I w1.heap.size A7 c7 L, evI w1.heap.size A8 c8 Q] w1 w4 from x4.sub (by intro it h; simp at h ⊢; exact h.symm))
                have AP4 := Lib.hid (show ApI (evI w1.heap.size A8 c8 Q) (u32I w1.heap.size A7 c7 L) from hap _ (List.mem_singleton.2 rfl))
                clear x4 hap C
                go_wp2_with fail
                generalize wr = wo at *
                go_loopw [68, 7] (fun i v7 wr => ∃ j : Nat, j ≤ Q.length ∧ i = .int .i64 j ∧ ∃ (M : List Nat) (A9 : Option Addr) (c9 : Nat), v7 = .slice A9 M.length c9 ∧ Hid (M = (Q.take j).foldl folE L) ∧ Hid (OX w1.heap.size (ST g st1) [u32I w1.heap.size A9 c9 M, evI w1.heap.size A8 c8 Q] w1 wr) ∧ Hid (ApI (evI w1.heap.size A8 c8 Q) (u32I w1.heap.size A9 c9 M))) (fun i _ _ => Q.length - (intOf i).toNat)
                case atStart => exact ⟨0, Nat.zero_le _, rfl, L, A7, c7, rfl, Lib.hid rfl, X4, AP4⟩
                case round =>
                  obtain ⟨j, hj, rfl, M, A9, c9, rfl, hM, hx, hap⟩ := hrel
                  have hj0 : (0 : Int) ≤ (j : Int) := by omega
                  have hMl : M.length ≤ 1300 := by
                    rw [hM.out]
                    have := folE_fold_len (Q.take j) L
                    have := List.length_take_le j Q
                    omega
                  clear X4 AP4
                  by_cases hltq : j < Q.length
                  · have hj1 : (j : Int) < (Q.length : Int) := by omega
                    obtain ⟨b2, off2, rfl, _, y0, y1, y2⟩ := (hx.out.rdE (A := A8) (c := c8) (l := Q) (by simp)).ev hltq
                    have HM := Lib.hid (show folE M Q[j] = (Q.take (j + 1)).foldl folE L by rw [List.take_succ_eq_append_getElem hltq, List.foldl_append, ← hM.out]; rfl)
                    clear hM
                    generalize Q[j] = ev at *
                    have D1 := below_al wr (.cells #[.int .i64 ev.k, .int .u32 (ev.u : Int), .int .u8 (ev.f : Int)] 44)
                    have hsz1 : (wr.alloc (.cells #[.int .i64 ev.k, .int .u32 (ev.u : Int), .int .u8 (ev.f : Int)] 44)).heap.size = wr.heap.size + 1 := by simp
                    by_cases e1 : ev.k = 1
                    · rw [e1] at y0 D1 hsz1
                      have HF := Lib.hid (show M ++ [ev.u] = (Q.take (j + 1)).foldl folE L by rw [← HM.out]; unfold folE; rw [if_pos e1])
                      have D2 := below_al (wr.alloc (.cells #[.int .i64 1, .int .u32 (ev.u : Int), .int .u8 (ev.f : Int)] 44)) (.cells #[.int .u32 (ev.u : Int)] 27)
                      have D3 := D1.trans (D2.mono D1.size)
                      have HOW := Lib.hid (own_below (hx.out.it (u32I w1.heap.size A9 c9 M) (by simp)) D3)
                      have HSL := slAt_u1 (w := (wr.alloc (.cells #[.int .i64 1, .int .u32 (ev.u : Int), .int .u8 (ev.f : Int)] 44)).alloc (.cells #[.int .u32 (ev.u : Int)] 27)) (b := (wr.alloc (.cells #[.int .i64 1, .int .u32 (ev.u : Int), .int .u8 (ev.f : Int)] 44)).heap.size) (x := ev.u) (by rw [cell_of_row _ _ _ _ _ _ (heap_alloc_new _ _)]; rfl) (by simp)
                      rw [hsz1] at HSL
                      have HSL := Lib.hid HSL
                      have hba : w1.heap.size ≤ ((wr.alloc (.cells #[.int .i64 1, .int .u32 (ev.u : Int), .int .u8 (ev.f : Int)] 44)).alloc (.cells #[.int .u32 (ev.u : Int)] 27)).heap.size := Nat.le_trans hx.out.sz D3.size
                      have h63 : M.length + [ev.u].length ≤ maxLen := by show M.length + 1 ≤ 9223372036854775807; omega
                      have h64 : (M.length + [ev.u].length) * 4 ≤ 140737488355328 := by show (M.length + 1) * 4 ≤ _; omega
                      have HP := Lib.hid (fun (v' : Value) (w' : World) (ho : w'.ownsRow w1.heap.size 27 1 v' (M.length + [ev.u].length) (flatL encU M ++ flatL encU [ev.u])) (hg : ((wr.alloc (.cells #[.int .i64 1, .int .u32 (ev.u : Int), .int .u8 (ev.f : Int)] 44)).alloc (.cells #[.int .u32 (ev.u : Int)] 27)).grownBy w' (Value.slice A9 M.length c9).ownBlock) (hf : v'.ownBlock = (Value.slice A9 M.length c9).ownBlock ∨ v'.ownBlock = some ((wr.alloc (.cells #[.int .i64 1, .int .u32 (ev.u : Int), .int .u8 (ev.f : Int)] 44)).alloc (.cells #[.int .u32 (ev.u : Int)] 27)).heap.size) => show ∃ A' c', v' = Value.slice A' (M.length + 1) c' ∧ OX w1.heap.size (ST g st1) [u32I w1.heap.size A' c' (M ++ [ev.u]), evI w1.heap.size (some ⟨b2, off2, none⟩) c8 Q] w1 w' ∧ ApI (evI w1.heap.size (some ⟨b2, off2, none⟩) c8 Q) (u32I w1.heap.size A' c' (M ++ [ev.u])) from by
                        obtain ⟨A', c', rfl⟩ := own_any ho
                        exact ⟨A', c', rfl, hx.out.push2 hap.out D3 hg ho hf⟩)
                      clear hx hap D1 D2 D3 e1 HM
                      go_wp2_with (at_builtin; refine wpList_append_slg _ rfl _ _ 28 rfl w1.heap.size 27 i0 _ 4 Tryz.underlying28 hi hz0 hz1 hz2 rfl (by decide) _ M.length (flatL encU M) rfl HOW.out ⟨wr.heap.size + 1, 0, none⟩ [ev.u] 1 1 rfl rfl encU_len HSL.out (one_flatU _) h63 h64 hba ?_; intro v5 w5 hown5 hg5 hf5; obtain ⟨A5, c5, e5, x5, ap5⟩ := HP.out v5 w5 hown5 hg5 hf5; subst e5; have X5 := Lib.hid x5; have AP5 := Lib.hid ap5; clear hown5 hg5 hf5 x5 ap5 HP HOW HSL)
                      go_roundw
                      case rel => exact ⟨j + 1, by omega, by go_num, M ++ [ev.u], A5, c5, by simp, HF, X5, AP5⟩
                      case measure => simp [intOf]; omega
                    · have q1 : (ev.k == 1) = false := beq_eq_false_iff_ne.2 e1
                      by_cases e2 : ev.k = 2
                      · have HF := Lib.hid (show M.filter (fun x => !decide (x = ev.u)) = (Q.take (j + 1)).foldl folE L by rw [← HM.out]; unfold folE; rw [if_neg e1, if_pos e2])
                        rw [e2] at y0 D1 hsz1
                        have C := Lib.hid ((hx.out.bel D1).delC hap.out (by omega) (heap_alloc_new wr (.cells #[.int .i64 2, .int .u32 (ev.u : Int), .int .u8 (ev.f : Int)] 44)) (fun q hq => Nat.ne_of_lt ((u32I w1.heap.size A9 c9 M).lt wr (hx.out.it _ (by simp)) q hq)))
                        generalize M.filter (fun x => !decide (x = ev.u)) = M2 at *
                        clear hx hap D1 HM e1 e2 q1
                        go_wp2_with fail
                        refine C.out.mono ?_
                        rintro e w5 ⟨rfl, x5, ap5⟩
                        have X5 := Lib.hid x5
                        have AP5 := Lib.hid ap5
                        clear x5 ap5 C
                        go_wp2_with fail
                        go_roundw
                        case rel => exact ⟨j + 1, by omega, by go_num, M2, A9, c9, rfl, HF, X5, AP5⟩
                        case measure => simp [intOf]; omega
                      · have q2 : (ev.k == 2) = false := beq_eq_false_iff_ne.2 e2
                        have HF := Lib.hid (show M = (Q.take (j + 1)).foldl folE L by rw [← HM.out]; unfold folE; rw [if_neg e1, if_neg e2])
                        have X5 := Lib.hid (hx.out.bel D1)
                        clear hx D1 HM
                        go_wp2_with fail
                        go_roundw
                        case rel => exact ⟨j + 1, by omega, by go_num, M, A9, c9, rfl, HF, X5, hap⟩
                        case measure => simp [intOf]; omega
                  · obtain rfl : j = Q.length := by omega
                    have hMU : M = U := by rw [hM.out, List.take_length]; exact HQ.out
                    subst hMU
                    have C := hx.out.uids
                    rw [HU.out] at C
                    have C := Lib.hid C
                    clear hx hap hM
                    go_wp2_with fail
                    refine C.out.mono ?_
                    rintro e w5 ⟨A5, c5, rfl, x5⟩
                    have E5 := equalU_any A9 A5 c9 c5 M M (by omega) (by omega) w5 (x5.rdU (c := c9) (by simp)) (x5.rdU (c := c5) (by simp))
                    rw [decide_eq_true rfl] at E5
                    have E5 := Lib.hid E5
                    have X5 := Lib.hid x5
                    clear x5 C
                    go_wp2_with fail
                    refine E5.out.mono ?_
                    rintro e w6 ⟨rfl, hb6⟩
                    have X6 := Lib.hid (show OX w1.heap.size (ST g st1) [u32I w1.heap.size A9 c9 M] w1 w6 from (X5.out.bel hb6).sub (by intro it h; simp at h ⊢; exact .inr (.inl h)))
                    clear hb6 X5 E5
                    go_wp2_with fail
                    go_roundw
                    case rel => exact ⟨k + 1, by omega, by go_num, st1, M, A9, c9, rfl, F1, X6⟩
                    case measure => simp [intOf]; omega
              · have qo6 : (o.kind == 6) = false := beq_eq_false_iff_ne.2 k6
                have F1 := Lib.hid hf.out.skip
                have X4 := Lib.hid x1
                clear hf hx x1 hgood ok hby hby2 D0
                go_wp2_with fail
                go_roundw
                case rel => exact ⟨k + 1, by omega, by go_num, st, L, A7, c7, rfl, F1, X4⟩
                case measure => simp [intOf]; omega
    · obtain rfl : k = l.length := by omega
      have HB2 := Lib.hid (HB1.out.trans (hx.out.be.mono HB1.out.size))
      clear hx hf
      go_wp2_with fail
      refine (AL.out _).mono ?_
      rintro e w9 ⟨rfl, hb9⟩
      have HB9 := Lib.hid (HB2.out.trans (hb9.mono HB2.out.size))
      clear hb9 HB2 AL
      go_wp2_with fail
      go_ret
      exact ⟨rfl, HB9.out⟩
theorem storeFollows_law (A : Option Addr) (c : Nat) (l : List O16) (hlm : l.length ≤ maxLen) (hok : ∀ o ∈ l, O16ok o) (id : Nat) (hid : id ≤ 255) (w : World) (hS : SlAt enc16 6 w A l) (hB : ∀ o ∈ l, ByAt w.heap.size w o.A o.c o.b) :
    Calls Tryz.prog 3 #[.slice A l.length c, .int .u8 id] w fun e w' => e = .returned (.bool true) ∧ Below w.heap.size w w' := by
  by_cases hf : few16 l = true
  · have h60 : l.length ≤ 60 := by
      unfold few16 at hf
      rw [Bool.and_eq_true] at hf
      simpa using hf.2
    exact follows_main A c l h60 hok hf id hid w hS hB
  · have FW := few16_any l A c hlm w hS
    rw [if_neg hf] at FW
    have FW := Lib.hid FW
    have AL := Lib.hid (fun W => alive16_any W)
    clear hf hS hB hok hlm
    generalize l.length = n1 at *
    go_enter Tryz.func3, Tryz.ntmps3
    go_wp2_with fail
    refine FW.out.mono ?_
    rintro e w1 ⟨rfl, hb1⟩
    have HB1 := Lib.hid hb1
    clear hb1 FW
    go_wp2_with fail
    refine (AL.out _).mono ?_
    rintro e w2 ⟨rfl, hb2⟩
    have HB2 := Lib.hid (HB1.out.trans (hb2.mono HB1.out.size))
    clear hb2 HB1
    go_wp2_with fail
    go_ret
    exact ⟨rfl, HB2.out⟩
end Go.Proofs.YthdbbappojkmoaaGreat
