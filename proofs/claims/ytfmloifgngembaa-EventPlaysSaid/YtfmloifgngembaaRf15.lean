/- The reference of layer 15: Push, Has. -/
import Derived.Test.YtfmloifgngembaaEv
import Derived.OwnWalk
import Derived.WalkKit
namespace Go.Proofs.Ytfmloifgngembaa
open Go.RowKit

theorem filt_take {α : Type} (p : α → Bool) {l : List α} {k : Nat} (hk : k < l.length) : (l.take (k + 1)).filter p = if p l[k] = true then (l.take k).filter p ++ [l[k]] else (l.take k).filter p := by
  rw [List.take_succ_eq_append_getElem hk, List.filter_append]
  by_cases h : p l[k] = true
  · rw [if_pos h, List.filter_cons_of_pos h, List.filter_nil]
  · rw [if_neg h, List.filter_cons_of_neg h, List.filter_nil, List.append_nil]
theorem cells_new3 {W : World} {b : Nat} (hb : b = W.heap.size) (x y z : Value) (T : TypeId) : ∀ (j : Nat) (u : Value), [x, y, z][j]? = some u → (W.alloc (.cells #[x, y, z] T)).cell? ((⟨b, 0, none⟩ : Addr).add j) = some u := by
  subst hb
  intro j u hj
  rw [Addr.add_lit]
  match j, hj with
  | 0, hj => simp at hj; subst hj; simp
  | 1, hj => simp at hj; subst hj; simp
  | 2, hj => simp at hj; subst hj; simp
theorem ev_one (x : EvI) : ∀ u ∈ [Value.int .i64 x.k, .int .u32 (x.u : Int), .int .u8 (x.f : Int)], u.oneCell' = true := by
  intro u hu
  simp at hu
  rcases hu with rfl | rfl | rfl <;> rfl
section
variable {A A2 : Option Addr} {c c2 : Nat} {l q : List EvI} {w : World}
set_option maxRecDepth 100000 in
set_option maxHeartbeats 1000000 in
theorem rpush15_any (hq : q.length ≤ 100000) (hl : l.length ≤ 100000) (hS : SlAt encEv 3 w A q) (hS2 : SlAt encEv 3 w A2 l) :
    Calls Try.prog 13 #[.slice A q.length c, .slice A2 l.length c2] w fun e w' => ∃ v, e = .returned v ∧ w'.ownsRow w.heap.size 39 3 v (pushE q l).length (flatL encEv (pushE q l)) ∧ Below w.heap.size w w' := by
  obtain ⟨i0, hi, hz0, hz1, hz2⟩ := info_parts infoEv
  have HS2 := Lib.hid hS2
  have HS := Lib.hid (hS.below (below_al w (.cells #[] 39)))
  have HOE := Lib.hid (own_empty (sz := 3) (heap_alloc_new w (.cells #[] 39)) (Nat.le_refl _))
  have H63 := Lib.hid (show 0 + q.length ≤ maxLen by unfold maxLen; omega)
  have HBY := Lib.hid (show (0 + q.length) * 16 ≤ 140737488355328 by omega)
  have HB0 := Lib.hid (below_al w (.cells #[] 39))
  have HSZ := Lib.hid HB0.out.size
  clear hS hS2
  go_enter Try.func13, Try.ntmps13
  go_wp2_with (at_builtin; refine wpList_append_sl _ rfl _ _ 28 rfl w.heap.size 39 i0 _ 16 Try.underlying28 hi hz0 hz1 hz2 rfl (by decide) _ 0 [] rfl HOE.out A q c rfl encEv_len HS.out (one_flatEv q) H63.out HBY.out HSZ.out ?_; intro v2 w2 hown2 hg2; rw [Nat.zero_add, List.nil_append] at hown2; have HB2 := Lib.hid (HB0.out.grown hg2 HSZ.out (fun kk hkk => (HOE.out.lt kk hkk).1)); have HO2 := Lib.hid hown2; clear hown2 hg2 HOE HS HB0)
  go_loopw [5, 6] (fun v i wr => ∃ k : Nat, k ≤ l.length ∧ i = .int .i64 k ∧ Hid (wr.ownsRow w.heap.size 39 3 v (q ++ (l.take k).filter knownE).length (flatL encEv (q ++ (l.take k).filter knownE))) ∧ Hid (Below w.heap.size w wr)) (fun _ i _ => l.length - (intOf i).toNat)
  case atStart => exact ⟨0, Nat.zero_le _, rfl, Lib.hid (by rw [List.take_zero, List.filter_nil, List.append_nil]; exact HO2.out), HB2⟩
  case round =>
    obtain ⟨k, hk, rfl, hrow, hB⟩ := hrel
    clear HO2 HB2
    by_cases hlt : k < l.length
    · obtain ⟨b, off, rfl, hb, hx, hx1, hx2⟩ := (HS2.out.below hB.out).ev hlt
      have HT := Lib.hid (filt_take knownE hlt)
      have hrl : (q ++ (l.take k).filter knownE).length ≤ 200000 := by
        have h1 := List.length_filter_le knownE (l.take k)
        have h2 := List.length_take_le k l
        rw [List.length_append]
        omega
      obtain ⟨A', c', rfl⟩ := own_any hrow.out
      have hk0 : (0 : Int) ≤ (k : Int) := by omega
      have hk1 : (k : Int) < (l.length : Int) := by omega
      by_cases hxu : knownE l[k] = true
      · have HR := Lib.hid (show q ++ (l.take (k + 1)).filter knownE = (q ++ (l.take k).filter knownE) ++ [l[k]] by rw [HT.out, if_pos hxu, List.append_assoc])
        have hkn := of_decide_eq_true hxu
        have hk2 := hkn.1
        have hk3 := hkn.2
        clear HT hxu hkn
        generalize l[k] = m at *
        generalize q ++ (l.take k).filter knownE = Q at *
        have hBs := hB.out.size
        have HRW := Lib.hid (hrow.out.alloc (.cells #[.int .i64 m.k, .int .u32 (m.u : Int), .int .u8 (m.f : Int)] 39))
        go_wp2_with (at_builtin; refine wpList_append_own _ rfl _ _ 28 rfl w.heap.size 39 i0 _ 3 16 Try.underlying28 hi hz0 hz1 hz2 rfl (by decide) _ _ _ rfl HRW.out ⟨wr.heap.size, 0, none⟩ 1 1 [.int .i64 m.k, .int .u32 (m.u : Int), .int .u8 (m.f : Int)] rfl rfl (cells_new3 rfl _ _ _ _) (ev_one m) (by unfold maxLen; omega) (by omega) (by simp; omega) ?_; intro v' wz hown' hgrow _; obtain ⟨A3, c3, rfl⟩ := own_any hown'; have HB2 := Lib.hid ((hB.out.alloc hBs (.cells #[.int .i64 m.k, .int .u32 (m.u : Int), .int .u8 (m.f : Int)] 39)).grown hgrow (by simp; omega) (fun k hk => (hrow.out.lt k hk).1)); have HO2 := Lib.hid hown'; clear hown' hgrow)
        go_roundw
        case rel => exact ⟨k + 1, by omega, by go_num, by rw [HR.out, List.length_append, flatL_append]; exact HO2, HB2⟩
        case measure => simp [intOf]; omega
      · have HR := Lib.hid (show q ++ (l.take (k + 1)).filter knownE = q ++ (l.take k).filter knownE by rw [HT.out, if_neg hxu])
        have hkn : ¬ (1 ≤ l[k].k ∧ l[k].k ≤ 3) := fun h => hxu (decide_eq_true h)
        clear HT hxu
        generalize l[k] = m at *
        generalize q ++ (l.take k).filter knownE = Q at *
        by_cases h1 : 1 ≤ m.k
        · have h3 : ¬ m.k ≤ 3 := fun h => hkn ⟨h1, h⟩
          clear hkn
          go_wp2_with fail
          go_roundw
          case rel => exact ⟨k + 1, by omega, by go_num, by rw [HR.out]; exact hrow, hB⟩
          case measure => simp [intOf]; omega
        · clear hkn
          go_wp2_with fail
          go_roundw
          case rel => exact ⟨k + 1, by omega, by go_num, by rw [HR.out]; exact hrow, hB⟩
          case measure => simp [intOf]; omega
    · obtain rfl : k = l.length := by omega
      rw [List.take_length] at hrow
      go_wp2_with fail
      go_ret
      exact ⟨_, rfl, hrow.out, hB.out⟩
set_option maxRecDepth 100000 in
set_option maxHeartbeats 1000000 in
theorem rhas15_any (u : Nat) (hl : l.length ≤ 100000) (hS : SlAt encEv 3 w A l) :
    Calls Try.prog 20 #[.slice A l.length c, .int .u32 u] w fun e w' => e = .returned (.bool (hasE l u)) ∧ w = w' := by
  have HS := Lib.hid hS
  have h0 : ∀ k, k < l.length → hasE (l.drop k) u = (decide (l[k]!.k = 2 ∧ l[k]!.u = u) || hasE (l.drop (k + 1)) u) := fun k hk => by
    rw [List.drop_eq_getElem_cons hk, getElem!_pos l k hk]
    rfl
  have H0 := Lib.hid h0
  clear hS h0
  go_enter Try.func20, Try.ntmps20
  go_wp2_with fail
  go_loopw [5] (fun i wr => ∃ k : Nat, k ≤ l.length ∧ i = .int .i64 k ∧ w = wr ∧ Hid (hasE (l.drop k) u = hasE l u)) (fun i _ => l.length - (intOf i).toNat)
  case atStart => exact ⟨0, Nat.zero_le _, rfl, rfl, Lib.hid (by rw [List.drop_zero])⟩
  case round =>
    obtain ⟨k, hk, rfl, rfl, hE⟩ := hrel
    by_cases hlt : k < l.length
    · obtain ⟨b, off, rfl, hb, hx, hx1, _⟩ := HS.out.ev hlt
      have hk0 : (0 : Int) ≤ (k : Int) := by omega
      have hk1 : (k : Int) < (l.length : Int) := by omega
      have h1 := H0.out k hlt
      rw [getElem!_pos l k hlt] at h1
      have H1 := Lib.hid h1
      clear h1 H0
      generalize l[k] = m at *
      by_cases hm : m.k = 2
      · rw [hm] at hx
        have hm2 := Lib.hid hm
        clear hm
        by_cases hu : m.u = u
        · have HE := Lib.hid (show hasE l u = true by rw [← hE.out, H1.out, decide_eq_true ⟨hm2.out, hu⟩]; rfl)
          rw [hu] at hx1
          clear hu H1 hE
          go_wp2_with fail
          go_ret
          exact ⟨congrArg (fun b => Ending.returned (.bool b)) HE.out.symm, rfl⟩
        · have HN := Lib.hid (show hasE (l.drop (k + 1)) u = hasE l u by rw [← hE.out, H1.out, decide_eq_false (fun e => hu e.2)]; rfl)
          have hxi : ((m.u : Int) == (u : Int)) = false := by simp; omega
          clear hu H1 hE
          go_wp2_with fail
          go_roundw
          case rel => exact ⟨k + 1, by omega, by go_num, trivial, HN⟩
          case measure => simp [intOf]; omega
      · have HN := Lib.hid (show hasE (l.drop (k + 1)) u = hasE l u by rw [← hE.out, H1.out, decide_eq_false (fun e => hm e.1)]; rfl)
        have hxi : (m.k == 2) = false := beq_eq_false_iff_ne.2 hm
        clear hm H1 hE
        go_wp2_with fail
        go_roundw
        case rel => exact ⟨k + 1, by omega, by go_num, trivial, HN⟩
        case measure => simp [intOf]; omega
    · obtain rfl : k = l.length := by omega
      have HE := Lib.hid (show hasE l u = false by rw [← hE.out, List.drop_length]; rfl)
      clear hE
      go_wp2_with fail
      go_ret
      exact ⟨congrArg (fun b => Ending.returned (.bool b)) HE.out.symm, rfl⟩
end
end Go.Proofs.Ytfmloifgngembaa
