/- The law EventLast. -/
import Derived.Test.YtfmloifgngembaaL15Z
import Derived.WalkSmall
import Derived.Lib.SmallJoins
import Derived.Deep.CutBlock
namespace Go.Proofs.Ytfmloifgngembaa
open Go.RowKit

def isC (u : Nat) (e : EvI) : Bool := decide (e.k = 3 ∧ e.u = u)
/-- The last change of a message. -/
def lastO (u : Nat) (l : List EvI) : Option EvI := (l.filter (isC u)).getLast?
theorem last_sq (u : Nat) : ∀ l : List EvI, (sqE l).filter (isC u) = (lastO u l).toList
  | [] => rfl
  | x :: l => by
    have ih := last_sq u l
    unfold lastO at ih ⊢
    unfold sqE
    by_cases hx : isC u x = true
    · have hx2 := of_decide_eq_true hx
      have hlt : laterE x l = l.any (isC u) := by
        unfold laterE
        congr 1
        funext y
        unfold isC
        rw [Bool.eq_iff_iff]
        simp [hx2.1, hx2.2]
      rw [List.filter_cons_of_pos hx, hlt]
      by_cases ha : l.any (isC u) = true
      · rw [if_pos ha, ih]
        obtain ⟨y, hy, hc⟩ := List.any_eq_true.1 ha
        have hne : l.filter (isC u) ≠ [] := List.ne_nil_of_mem (List.mem_filter.2 ⟨hy, hc⟩)
        rw [List.getLast?_cons]
        cases hl : l.filter (isC u) with
        | nil => exact absurd hl hne
        | cons a b => simp [List.getLast?_cons]
      · rw [if_neg ha, List.filter_cons_of_pos hx, ih]
        have hn : l.filter (isC u) = [] := List.filter_eq_nil_iff.2 fun y hy hc => ha (List.any_eq_true.2 ⟨y, hy, hc⟩)
        rw [hn]
        rfl
    · rw [List.filter_cons_of_neg hx]
      split
      · exact ih
      · rw [List.filter_cons_of_neg hx]
        exact ih
theorem last_take (u : Nat) {l : List EvI} {k : Nat} (hk : k < l.length) : lastO u (l.take (k + 1)) = if isC u l[k] = true then some l[k] else lastO u (l.take k) := by
  unfold lastO
  rw [List.take_succ_eq_append_getElem hk, List.filter_append]
  by_cases h : isC u l[k] = true
  · rw [if_pos h, List.filter_cons_of_pos h, List.filter_nil, List.getLast?_append]
    rfl
  · rw [if_neg h, List.filter_cons_of_neg h, List.filter_nil, List.append_nil]
def evZ : EvI := ⟨0, 0, 0⟩
theorem last_kind (u : Nat) (l : List EvI) : ((lastO u l).getD evZ).k = if (lastO u l).isSome then 3 else 0 := by
  cases h : lastO u l with
  | none => rfl
  | some e =>
    have := List.mem_of_getLast? h
    exact (of_decide_eq_true (List.mem_filter.1 this).2).1
theorem neqSame (x : EvI) (W : World) : (binOp .neq 39 (.agg #[.int .i64 x.k, .int .u32 (x.u : Int), .int .u8 (x.f : Int)]) (.agg #[.int .i64 x.k, .int .u32 (x.u : Int), .int .u8 (x.f : Int)])).run Try.prog W = .ok (.bool false) W := by
  have := neqEv.1 x x W
  simpa [encEv] using this
set_option maxRecDepth 100000 in
set_option maxHeartbeats 4000000 in
theorem last_main (A : Option Addr) (c : Nat) (l : List EvI) (hl : l.length ≤ 100) (hok : ∀ x ∈ l, evOk x) (u : Nat) (w : World) (hS : SlAt encEv 3 w A l) :
    Calls Try.prog 6 #[.slice A l.length c, .int .u32 u] w fun e w' => e = .returned (.bool true) ∧ Below w.heap.size w w' := by
  have h1 : ¬ (100 : Int) < (l.length : Int) := by omega
  have AL := Lib.hid (fun W => alive15_any W)
  have HS := Lib.hid hS
  have HOK := Lib.hid hok
  have hb0 := heap_alloc_new w (.cells #[.int .i64 0, .int .u32 0, .int .u8 0] 39)
  have hz0 : (w.alloc (.cells #[.int .i64 0, .int .u32 0, .int .u8 0] 39)).heap.size = w.heap.size + 1 := by simp
  have BA := below_al w (.cells #[.int .i64 0, .int .u32 0, .int .u8 0] 39)
  have H0 := Lib.hid hb0
  have HB0 := Lib.hid BA
  clear hS hok hb0 BA
  go_enter Try.func6, Try.ntmps6
  go_wp2_with fail
  generalize w.alloc _ = w1 at *
  generalize hp : w.heap.size = p at *
  have HP := Lib.hid hp
  clear hp
  go_loopw [18] (fun i wr => ∃ k : Nat, k ≤ l.length ∧ i = .int .i64 k ∧ ∃ x : EvI, Hid (x = (lastO u (l.take k)).getD evZ) ∧ Hid (wr.heap[p]? = some (.cells #[.int .i64 x.k, .int .u32 (x.u : Int), .int .u8 (x.f : Int)] 39)) ∧ Hid (Below p w wr)) (fun i _ => l.length - (intOf i).toNat)
  case atStart => exact ⟨0, Nat.zero_le _, rfl, evZ, Lib.hid rfl, H0, HB0⟩
  case round =>
    obtain ⟨k, hk, rfl, x, hx, hb, hB⟩ := hrel
    clear H0 HB0
    have hk0 : (0 : Int) ≤ (k : Int) := by omega
    have hpl : p < wr.heap.size := (Array.getElem?_eq_some_iff.1 hb.out).1
    by_cases hlt : k < l.length
    · have hSw : SlAt encEv 3 wr A l := HS.out.below (by rw [HP.out]; exact hB.out)
      obtain ⟨b, off, rfl, _, x0, x1, x2⟩ := hSw.ev hlt
      have hk1 : (k : Int) < (l.length : Int) := by omega
      have HT := Lib.hid (last_take u hlt)
      have BA := below_al wr (.cells #[.int .i64 l[k].k, .int .u32 (l[k].u : Int), .int .u8 (l[k].f : Int)] 39)
      have hb2 := (BA.block p hpl).trans hb.out
      have HB2 := Lib.hid (hB.out.trans (BA.mono (by omega)))
      clear hSw BA
      by_cases hc : isC u l[k] = true
      · have hc2 := of_decide_eq_true hc
        have HX := Lib.hid (show l[k] = (lastO u (l.take (k + 1))).getD evZ by rw [HT.out, if_pos hc]; rfl)
        have x0' := x0
        have x1' := x1
        have c0 := cell_of_row _ _ 0 _ _ _ hb2
        have c1 := cell_of_row _ _ 1 _ _ _ hb2
        have c2 := cell_of_row _ _ 2 _ _ _ hb2
        have f0 := Joins.unfrozen_of_block hb2 0
        have f1 := Joins.unfrozen_of_block hb2 1
        have f2 := Joins.unfrozen_of_block hb2 2
        have ek : (l[k].k == 3) = true := beq_iff_eq.2 hc2.1
        have eu : ((l[k].u : Int) == (u : Int)) = true := beq_iff_eq.2 (by omega)
        clear hc hc2 HT x0' x1'
        generalize l[k] = m at *
        have HNW := Lib.hid (heap_alloc_new wr (.cells #[.int .i64 m.k, .int .u32 (m.u : Int), .int .u8 (m.f : Int)] 39))
        have hsw : p < (wr.alloc (.cells #[.int .i64 m.k, .int .u32 (m.u : Int), .int .u8 (m.f : Int)] 39)).heap.size := by simp; omega
        have HBo := Lib.hid hb2
        clear hb2
        go_upto_region 8 with (fail)
        generalize wr.alloc (.cells #[.int .i64 m.k, .int .u32 (m.u : Int), .int .u8 (m.f : Int)] 39) = wa at *
        generalize wr.heap.size = bn at *
        have y0 := cell_of_row _ _ 0 _ _ _ HNW.out
        have y1 := cell_of_row _ _ 1 _ _ _ HNW.out
        have y2 := cell_of_row _ _ 2 _ _ _ HNW.out
        have s1 := Joins.block_setCell (i := 0) HBo.out (.int .i64 m.k)
        have s2 := Joins.block_setCell (i := 1) s1 (.int .u32 (m.u : Int))
        have s3 := Joins.block_setCell (i := 2) s2 (.int .u8 (m.f : Int))
        simp at s3
        have HS3 := Lib.hid s3
        have HB3 := Lib.hid (HB2.out.grown (grown_set (grown_set (grown_setCell wa p 0 (.int .i64 m.k)) 1 (.int .u32 (m.u : Int))) 2 (.int .u8 (m.f : Int))) (by omega) (fun r e => by cases e; exact Nat.le_refl _))
        clear s1 s2 s3 HB2 HBo HNW
        go_wp2_with fail
        go_roundw
        case rel => exact ⟨k + 1, by omega, by go_num, m, HX, HS3, HB3⟩
        case measure => simp [intOf]; omega
      · have HX := Lib.hid (show x = (lastO u (l.take (k + 1))).getD evZ by rw [HT.out, if_neg hc]; exact hx.out)
        have hcn : ¬ (l[k].k = 3 ∧ l[k].u = u) := fun h => hc (decide_eq_true h)
        have HB3 := Lib.hid hb2
        clear hc HT hb2
        generalize l[k] = m at *
        by_cases h3 : m.k = 3
        · have ek : (m.k == 3) = true := beq_iff_eq.2 h3
          have eu : ((m.u : Int) == (u : Int)) = false := beq_eq_false_iff_ne.2 (by omega)
          clear h3 hcn
          go_wp2_with fail
          go_roundw
          case rel => exact ⟨k + 1, by omega, by go_num, x, HX, HB3, HB2⟩
          case measure => simp [intOf]; omega
        · have ek : (m.k == 3) = false := beq_eq_false_iff_ne.2 h3
          clear h3 hcn
          go_wp2_with fail
          go_roundw
          case rel => exact ⟨k + 1, by omega, by go_num, x, HX, HB3, HB2⟩
          case measure => simp [intOf]; omega
    · obtain rfl : k = l.length := by omega
      have SQ := Lib.hid (qsqueeze_any A c l (by omega) HOK.out wr (HS.out.below (by rw [HP.out]; exact hB.out)))
      have HX := Lib.hid (show x = (lastO u l).getD evZ by have := hx.out; rwa [List.take_length] at this)
      have HLQ := Lib.hid (last_sq u l)
      have HLK := Lib.hid (last_kind u l)
      have hsl := sqE_len l
      clear hx hlt hk
      generalize sqE l = s at *
      generalize hlo : lastO u l = lo at *
      clear hlo
      go_wp2_with fail
      refine SQ.out.mono ?_
      rintro e w2 ⟨v, rfl, h2, hb2⟩
      obtain ⟨A2, c2, rfl⟩ := own_any h2
      have HS2 := Lib.hid (SlAt.of_own encEv_len h2)
      have HBX := Lib.hid ((hb2.block p hpl).trans hb.out)
      have HB2 := Lib.hid (hB.out.trans (hb2.mono (by omega)))
      clear h2 hb2 SQ hb hB
      go_wp2_with fail
      generalize wr.heap.size = pz at *
      go_loopw [36, 6] (fun i n wr => ∃ k : Nat, k ≤ s.length ∧ i = .int .i64 k ∧ ∃ m : Nat, n = .int .i64 m ∧ Hid (m = ((s.take k).filter (isC u)).length) ∧ Hid (Below w2.heap.size w2 wr)) (fun i _ _ => s.length - (intOf i).toNat)
      case atStart => exact ⟨0, Nat.zero_le _, rfl, 0, rfl, Lib.hid rfl, Lib.hid (Below.refl _ _)⟩
      case round =>
        obtain ⟨k, hk, rfl, m, rfl, hm, hB⟩ := hrel
        have hk0 : (0 : Int) ≤ (k : Int) := by omega
        have hpl2 : p < w2.heap.size := (Array.getElem?_eq_some_iff.1 HBX.out).1
        by_cases hlt : k < s.length
        · obtain ⟨b, off, rfl, _, x0, x1, x2⟩ := (HS2.out.below hB.out).ev hlt
          have hk1 : (k : Int) < (s.length : Int) := by omega
          have BA := below_al wr (.cells #[.int .i64 s[k].k, .int .u32 (s[k].u : Int), .int .u8 (s[k].f : Int)] 39)
          have hb2 := ((below_next hB.out BA).block p hpl2).trans HBX.out
          have HB3 := Lib.hid (below_next hB.out BA)
          have hm100 : m ≤ 100 := by
            rw [hm.out]
            exact Nat.le_trans (List.length_filter_le _ _) (Nat.le_trans (List.length_take_le _ _) (by omega))
          have HT := Lib.hid (show (s.take (k + 1)).filter (isC u) = if isC u s[k] = true then (s.take k).filter (isC u) ++ [s[k]] else (s.take k).filter (isC u) by
            rw [List.take_succ_eq_append_getElem hlt, List.filter_append]
            by_cases e : isC u s[k] = true
            · rw [if_pos e, List.filter_cons_of_pos e, List.filter_nil]
            · rw [if_neg e, List.filter_cons_of_neg e, List.filter_nil, List.append_nil])
          clear BA
          by_cases hc : isC u s[k] = true
          · have hc2 := of_decide_eq_true hc
            have HM := Lib.hid (show m + 1 = ((s.take (k + 1)).filter (isC u)).length by rw [HT.out, if_pos hc, List.length_append, hm.out]; rfl)
            have hsx : s[k] = x := by
              have hin : s[k] ∈ s.filter (isC u) := List.mem_filter.2 ⟨List.getElem_mem hlt, hc⟩
              rw [HLQ.out] at hin
              rw [HX.out]
              cases lo with
              | none => simp at hin
              | some y => simpa using hin
            rw [hsx] at x0 x1 x2 hc2 hb2 HB3
            have c0 := cell_of_row _ _ 0 _ _ _ hb2
            have c1 := cell_of_row _ _ 1 _ _ _ hb2
            have c2 := cell_of_row _ _ 2 _ _ _ hb2
            have ek : (x.k == 3) = true := beq_iff_eq.2 hc2.1
            have eu : ((x.u : Int) == (u : Int)) = true := beq_iff_eq.2 (by omega)
            have hnq := fun W => neqSame x W
            clear hc hc2 HT hsx hb2
            go_wp2_with fail
            go_roundw
            case rel => exact ⟨k + 1, by omega, by go_num, m + 1, by go_num, HM, HB3⟩
            case measure => simp [intOf]; omega
          · have HM := Lib.hid (show m = ((s.take (k + 1)).filter (isC u)).length by rw [HT.out, if_neg hc]; exact hm.out)
            have hcn : ¬ (s[k].k = 3 ∧ s[k].u = u) := fun h => hc (decide_eq_true h)
            clear hc HT hb2
            generalize s[k] = y at *
            by_cases h3 : y.k = 3
            · have ek : (y.k == 3) = true := beq_iff_eq.2 h3
              have eu : ((y.u : Int) == (u : Int)) = false := beq_eq_false_iff_ne.2 (by omega)
              clear h3 hcn
              go_wp2_with fail
              go_roundw
              case rel => exact ⟨k + 1, by omega, by go_num, m, rfl, HM, HB3⟩
              case measure => simp [intOf]; omega
            · have ek : (y.k == 3) = false := beq_eq_false_iff_ne.2 h3
              clear h3 hcn
              go_wp2_with fail
              go_roundw
              case rel => exact ⟨k + 1, by omega, by go_num, m, rfl, HM, HB3⟩
              case measure => simp [intOf]; omega
        · obtain rfl : k = s.length := by omega
          have hmm : (m : Int) = min x.k 1 := by
            have h1 := hm.out
            rw [List.take_length, HLQ.out] at h1
            have h2 := HLK.out
            rw [← HX.out] at h2
            cases lo with
            | none => simp at h1 h2; omega
            | some y => simp at h1 h2; omega
          have HB3 := Lib.hid (HB2.out.trans (hB.out.mono (by omega)))
          have hbx := (hB.out.block p hpl2).trans HBX.out
          have HBXr := Lib.hid hbx
          clear hbx HBX hm HLQ HLK hB
          go_wp2_with fail
          refine (AL.out _).mono ?_
          rintro e w5 ⟨rfl, hb5⟩
          have hpl3 : p < wr.heap.size := (Array.getElem?_eq_some_iff.1 HBXr.out).1
          have hb6 := (hb5.block p hpl3).trans HBXr.out
          have c0 := cell_of_row _ _ 0 _ _ _ hb6
          have HF := Lib.hid (HB3.out.trans (hb5.mono (by omega)))
          have hmin := hmm.symm
          clear hb5 hb6 HBXr HB3 AL hmm
          go_wp2_with fail
          go_ret
          exact ⟨by simp, by rw [HP.out]; exact HF.out⟩
theorem eventLast_law (A : Option Addr) (c : Nat) (l : List EvI) (hlm : l.length ≤ maxLen) (hok : ∀ x ∈ l, evOk x) (u : Nat) (_hu : u ≤ 4294967295) (w : World) (hS : SlAt encEv 3 w A l) :
    Calls Try.prog 6 #[.slice A l.length c, .int .u32 u] w fun e w' => e = .returned (.bool true) ∧ Below w.heap.size w w' := by
  unfold maxLen at hlm
  by_cases h1 : l.length ≤ 100
  · exact last_main A c l h1 hok u w hS
  · have h1i : (100 : Int) < (l.length : Int) := by omega
    have AL := Lib.hid (fun W => alive15_any W)
    clear h1 hS hok
    generalize l.length = n1 at *
    go_enter Try.func6, Try.ntmps6
    go_wp2_with fail
    refine (AL.out _).mono ?_
    rintro e w1 ⟨rfl, hb⟩
    go_wp2_with fail
    go_ret
    exact ⟨rfl, hb⟩
end Go.Proofs.Ytfmloifgngembaa
