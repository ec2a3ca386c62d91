/- slices.IndexFunc, ContainsFunc, DeleteFunc of events over a closure that reads. -/
import Derived.Test.YtfmloifgngembaaEvDel
import Derived.WalkKit
namespace Go.Proofs.Ytfmloifgngembaa
open Go.RowKit

section
variable {F : Nat} {cs : Array Value} {p : EvI → Bool} {KW : World → Prop} {A : Option Addr} {c : Nat} {l : List EvI} {w : World}
set_option maxRecDepth 100000 in
set_option maxHeartbeats 1000000 in
theorem idxEv_any (henter : ∀ args w, (callFunc F args).run Try.prog w = .ok (.enter F args) w) (hl : l.length ≤ 100000) (hS : SlAt encEv 3 w A l) (hK : KW w) (hb : ∀ W W', KW W → Below W.heap.size W W' → KW W')
    (hp : ∀ x ∈ l, ∀ W, KW W → Calls Try.prog F (#[evV x] ++ cs) W fun e w' => e = .returned (.bool (p x)) ∧ Below W.heap.size W w') :
    Calls Try.prog 35 #[.slice A l.length c, .func (.func F) #[] cs] w fun e w' => Below w.heap.size w w' ∧ ∃ x : Int, e = .returned (.int .i64 x) ∧ ((x = -1 ∧ ∀ y ∈ l, p y = false) ∨ ∃ k : Nat, x = (k : Int) ∧ ∃ hk : k < l.length, p l[k] = true ∧ ∀ j (hj : j < k), p (l[j]'(by omega)) = false) := by
  have HS := Lib.hid hS
  have HK := Lib.hid hK
  have HB := Lib.hid hb
  have HP := Lib.hid hp
  clear hS hK hb hp
  go_enter Try.func35, Try.ntmps35
  go_wp2_with fail
  go_loopw [8] (fun i wr => ∃ k : Nat, k ≤ l.length ∧ i = .int .i64 k ∧ Hid (∀ j (hj : j < l.length), j < k → p l[j] = false) ∧ Hid (Below w.heap.size w wr)) (fun i _ => l.length - (intOf i).toNat)
  case atStart => exact ⟨0, Nat.zero_le _, rfl, Lib.hid (fun j _ h => absurd h (Nat.not_lt_zero _)), Lib.hid (Below.refl _ _)⟩
  case round =>
    obtain ⟨k, hk, rfl, ha, hB⟩ := hrel
    have hk0 : (0 : Int) ≤ (k : Int) := by omega
    by_cases hlt : k < l.length
    · obtain ⟨b, off, rfl, hb, x0, x1, x2⟩ := (HS.out.below hB.out).ev hlt
      have hk1 : (k : Int) < (l.length : Int) := by omega
      have C := HP.out l[k] (List.getElem_mem hlt) wr (HB.out _ _ HK.out hB.out)
      cases ht : p l[k] with
      | true =>
        have HN := Lib.hid (show ∃ hk : k < l.length, p l[k] = true ∧ ∀ j (hj : j < k), p (l[j]'(by omega)) = false from ⟨hlt, ht, fun j hj => ha.out j (by omega) hj⟩)
        rw [ht] at C
        unfold evV at C
        have C := Lib.hid C
        clear ht HP
        generalize l[k] = x at *
        go_wp2_with fail
        refine C.out.mono ?_
        rintro e w2 ⟨rfl, hb2⟩
        have HF := Lib.hid (below_next hB.out hb2)
        clear C hb2
        go_wp2_with fail
        go_ret
        exact ⟨HF.out, _, rfl, .inr ⟨k, rfl, HN.out⟩⟩
      | false =>
        have HN := Lib.hid (show ∀ j (hj : j < l.length), j < k + 1 → p l[j] = false by
          intro j hj h
          rcases Nat.lt_or_ge j k with h2 | h2
          · exact ha.out j hj h2
          · obtain rfl : j = k := by omega
            exact ht)
        rw [ht] at C
        unfold evV at C
        have C := Lib.hid C
        clear ht ha HP
        generalize l[k] = x at *
        go_wp2_with fail
        refine C.out.mono ?_
        rintro e w2 ⟨rfl, hb2⟩
        have HF := Lib.hid (below_next hB.out hb2)
        clear C hb2
        go_wp2_with fail
        go_roundw
        case rel => exact ⟨k + 1, by omega, by go_num, HN, HF⟩
        case measure => simp [intOf]; omega
    · obtain rfl : k = l.length := by omega
      have HN := Lib.hid (show ∀ y ∈ l, p y = false from fun y hy => by
        obtain ⟨j, hj, rfl⟩ := List.mem_iff_getElem.1 hy
        exact ha.out j hj hj)
      clear ha HP
      go_wp2_with fail
      go_ret
      exact ⟨hB.out, _, rfl, .inl ⟨rfl, HN.out⟩⟩
set_option maxRecDepth 100000 in
theorem contEv_any (henter : ∀ args w, (callFunc F args).run Try.prog w = .ok (.enter F args) w) (hl : l.length ≤ 100000) (hS : SlAt encEv 3 w A l) (hK : KW w) (hb : ∀ W W', KW W → Below W.heap.size W W' → KW W')
    (hp : ∀ x ∈ l, ∀ W, KW W → Calls Try.prog F (#[evV x] ++ cs) W fun e w' => e = .returned (.bool (p x)) ∧ Below W.heap.size W w') :
    Calls Try.prog 27 #[.slice A l.length c, .func (.func F) #[] cs] w fun e w' => e = .returned (.bool (l.any p)) ∧ Below w.heap.size w w' := by
  have I := Lib.hid (idxEv_any (c := c) henter hl hS hK hb hp)
  clear hS hK hb hp henter
  generalize hr : l.any p = r
  have HR := Lib.hid hr
  clear hr
  go_enter Try.func27, Try.ntmps27
  go_wp2_with fail
  refine I.out.mono ?_
  rintro e w1 ⟨hb1, x, rfl, hx⟩
  have HB := Lib.hid hb1
  clear hb1 I
  rcases hx with ⟨rfl, hx⟩ | ⟨k, rfl, hk, hx, _⟩
  · obtain rfl : r = false := by
      rw [← HR.out, List.any_eq_false]
      intro y hy
      simp [hx y hy]
    clear hx HR
    go_wp2_with fail
    go_ret
    exact ⟨rfl, HB.out⟩
  · obtain rfl : r = true := by
      rw [← HR.out, List.any_eq_true]
      exact ⟨_, List.getElem_mem hk, hx⟩
    have hk0 : (0 : Int) ≤ (k : Int) := by omega
    clear hx HR
    go_wp2_with fail
    go_ret
    exact ⟨rfl, HB.out⟩
end
section
variable {F : Nat} {cs : Array Value} {p : EvI → Bool} {KW : World → Prop} {b c : Nat} {l : List EvI} {w : World}
set_option maxRecDepth 100000 in
set_option maxHeartbeats 2000000 in
theorem delEv_any (henter : ∀ args w, (callFunc F args).run Try.prog w = .ok (.enter F args) w) (hl : l.length ≤ 100000) (hc : l.length ≤ c) (hR : RE b l w) (hK : KW w) (hb : ∀ W W', KW W → KeptO (fun k => k = b) W W' → KW W')
    (hp : ∀ x ∈ l, ∀ W, KW W → Calls Try.prog F (#[evV x] ++ cs) W fun e w' => e = .returned (.bool (p x)) ∧ Below W.heap.size W w') :
    Calls Try.prog 24 #[.slice (some ⟨b, 0, none⟩) l.length c, .func (.func F) #[] cs] w fun e w' => e = .returned (.slice (some ⟨b, 0, none⟩) (l.filter fun x => !p x).length c) ∧ RE b (l.filter fun x => !p x) w' ∧ KeptO (fun k => k = b) w w' := by
  have I := Lib.hid (idxEv_any (c := c) henter hl hR.slAt hK (fun W W' h k => hb W W' h (KeptO.of_below k)) hp)
  have HR := Lib.hid hR
  have HK := Lib.hid hK
  have HB := Lib.hid hb
  have HP := Lib.hid hp
  clear hR hK hb hp
  go_enter Try.func24, Try.ntmps24
  go_wp2_with fail
  refine I.out.mono ?_
  rintro e w1 ⟨hb1, x, rfl, hx⟩
  have HB1 := Lib.hid hb1
  clear hb1 I
  rcases hx with ⟨rfl, hx⟩ | ⟨k, rfl, hk, hx, hx2⟩
  · have HE := Lib.hid (show (l.filter fun x => !p x) = l from List.filter_eq_self.2 fun y hy => by simp [hx y hy])
    clear hx
    go_wp2_with fail
    go_ret
    rw [HE.out]
    exact ⟨rfl, HR.out.below HB1.out, KeptO.of_below HB1.out⟩
  · have HT := Lib.hid (show (l.take (k + 1)).filter (fun x => !p x) = l.take k by
      rw [List.take_succ_eq_append_getElem hk, List.filter_append, List.filter_cons_of_neg (by simp [hx]), List.filter_nil, List.append_nil]
      refine List.filter_eq_self.2 fun y hy => ?_
      obtain ⟨j, hj, rfl⟩ := List.mem_iff_getElem.1 hy
      have hj2 : j < k := by rw [List.length_take] at hj; omega
      rw [List.getElem_take]
      simp [hx2 j hj2])
    have hne : ((k : Int) == -1) = false := beq_eq_false_iff_ne.2 (by omega)
    have hk0 : (0 : Int) ≤ (k : Int) := by omega
    clear hx hx2
    go_wp2_with fail
    have hsl := fun (i : Nat) (h : i < l.length) W => sliceEv_l b l.length c i h hc W
    have hsh := fun (i : Nat) (h : i ≤ c) W => sliceEv_h b l.length c i h W
    have HSL := Lib.hid hsl
    have HSH := Lib.hid hsh
    have hse := fun x lo hi mx W => sliceAtEv x lo hi mx W
    have HKW := Lib.hid (fun W (h : KeptO (fun k => k = b) w W) => HB.out _ _ HK.out h)
    have R1 := Lib.hid (HR.out.below HB1.out)
    have K1 := Lib.hid (KeptO.of_below (S := fun k => k = b) HB1.out)
    clear hsl hsh HR HB1 hne
    go_loopw [5, 6] (fun vi vj wr => ∃ i j : Nat, vi = .int .i64 i ∧ vj = .int .i64 j ∧ i < j ∧ j ≤ l.length ∧ ∃ d : List EvI, Hid (d.length = l.length) ∧ Hid (d.take i = (l.take j).filter (fun x => !p x)) ∧ Hid (d.drop j = l.drop j) ∧ Hid (RE b d wr) ∧ Hid (KeptO (fun k => k = b) w wr)) (fun _ vj _ => l.length - (intOf vj).toNat)
    case atStart => exact ⟨k, k + 1, rfl, by go_num, by omega, by omega, l, Lib.hid rfl, Lib.hid HT.out.symm, Lib.hid rfl, R1, K1⟩
    case round =>
      obtain ⟨i, j, rfl, rfl, hij, hj, d, hd, h1, h2, hR, hK⟩ := hrel
      clear R1 K1 HT
      have hi0 : (0 : Int) ≤ (i : Int) := by omega
      have hj0 : (0 : Int) ≤ (j : Int) := by omega
      by_cases hlt : j < l.length
      · have hdj : j < d.length := by rw [hd.out]; exact hlt
        have hdi : i < d.length := by rw [hd.out]; omega
        have hxd : d[j] = l[j] := by
          have := h2.out
          rw [List.drop_eq_getElem_cons hdj, List.drop_eq_getElem_cons hlt] at this
          injection this
        obtain ⟨x0, x1, x2⟩ := hR.out.at_ hdj
        rw [hxd] at x0 x1 x2
        have hj1 : (j : Int) < (l.length : Int) := by omega
        have hi1 : (i : Int) < (l.length : Int) := by omega
        have HD2 := Lib.hid (show d.drop (j + 1) = l.drop (j + 1) from by
          have := h2.out
          rw [List.drop_eq_getElem_cons hdj, List.drop_eq_getElem_cons hlt] at this
          injection this)
        have HFT := Lib.hid (show (l.take (j + 1)).filter (fun x => !p x) = if p l[j] = true then (l.take j).filter (fun x => !p x) else (l.take j).filter (fun x => !p x) ++ [l[j]] from by
          rw [List.take_succ_eq_append_getElem hlt, List.filter_append]
          by_cases e : p l[j] = true
          · rw [if_pos e, List.filter_cons_of_neg (by simp [e]), List.filter_nil, List.append_nil]
          · rw [if_neg e, List.filter_cons_of_pos (by simpa using e), List.filter_nil])
        have KA := hK.out.then_below (below_al wr (.cells #[.int .i64 l[j].k, .int .u32 (l[j].u : Int), .int .u8 (l[j].f : Int)] 39))
        have C := HP.out l[j] (List.getElem_mem hlt) _ (HKW.out _ KA)
        unfold evV at C
        have hnew := heap_alloc_new wr (.cells #[.int .i64 l[j].k, .int .u32 (l[j].u : Int), .int .u8 (l[j].f : Int)] 39)
        have hsz : wr.heap.size < (wr.alloc (.cells #[.int .i64 l[j].k, .int .u32 (l[j].u : Int), .int .u8 (l[j].f : Int)] 39)).heap.size := by simp
        have RA := hR.out.below (below_al wr (.cells #[.int .i64 l[j].k, .int .u32 (l[j].u : Int), .int .u8 (l[j].f : Int)] 39))
        have HKA := Lib.hid KA
        have HRA := Lib.hid RA
        have HNW := Lib.hid hnew
        clear KA RA hnew hxd h2 hR hK
        generalize hx : l[j] = x at *
        have HX := Lib.hid hx
        clear hx
        cases ht : p x with
        | true =>
          have HF := Lib.hid (show d.take i = (l.take (j + 1)).filter (fun x => !p x) by rw [h1.out, HFT.out, if_pos ht])
          rw [ht] at C
          have C := Lib.hid C
          clear ht HFT h1
          go_wp2_with fail
          refine C.out.mono ?_
          rintro e w2 ⟨rfl, hb2⟩
          have HK2 := Lib.hid (HKA.out.then_below hb2)
          have HR2 := Lib.hid (HRA.out.below hb2)
          clear C hb2 HKA HRA HNW x0 x1 x2
          go_wp2_with fail
          go_roundw
          case rel => exact ⟨i, j + 1, rfl, by go_num, by omega, by omega, d, hd, HF, HD2, HR2, HK2⟩
          case measure => simp [intOf]; omega
        | false =>
          have HF := Lib.hid (show (d.set i x).take (i + 1) = (l.take (j + 1)).filter (fun x => !p x) by
            rw [HFT.out, if_neg (by simp [ht]), ← h1.out]
            rw [List.take_succ_eq_append_getElem (by rw [List.length_set]; exact hdi), List.getElem_set_self, List.take_set_of_le (Nat.le_refl _)])
          have HD3 := Lib.hid (show (d.set i x).drop (j + 1) = l.drop (j + 1) by rw [List.drop_set_of_lt (by omega)]; exact HD2.out)
          rw [ht] at C
          have C := Lib.hid C
          clear ht HFT h1 HD2
          go_wp2_with fail
          refine C.out.mono ?_
          rintro e w2 ⟨rfl, hb2⟩
          have hbox : w2.heap[wr.heap.size]? = some (.cells #[.int .i64 x.k, .int .u32 (x.u : Int), .int .u8 (x.f : Int)] 39) := (hb2.block _ hsz).trans HNW.out
          have y0 := cell_of_row _ _ 0 _ _ _ hbox
          have y1 := cell_of_row _ _ 1 _ _ _ hbox
          have y2 := cell_of_row _ _ 2 _ _ _ hbox
          have HK2 := Lib.hid ((HKA.out.then_below hb2).trans (stE_kept w2 b (i * 3) x) fun _ e => .inl e)
          have hR2 := HRA.out.below hb2
          obtain ⟨z0, z1, z2⟩ := hR2.at_ hdi
          have f0 := hR2.fz (i * 3)
          have f1 := hR2.fz (i * 3 + 1)
          have f2 := hR2.fz (i * 3 + 2)
          have HR2 := Lib.hid (hR2.set hdi x)
          generalize d[i] = y at *
          clear C hb2 HKA HRA HNW x0 x1 x2 hbox hR2
          unfold stE at HK2 HR2
          go_wp2_with fail
          go_roundw
          case rel => exact ⟨i + 1, j + 1, by go_num, by go_num, by omega, by omega, d.set i x, Lib.hid (by rw [List.length_set]; exact hd.out), HF, HD3, HR2, HK2⟩
          case measure => simp [intOf]; omega
      · obtain rfl : j = l.length := by omega
        have hi1 : i < l.length := by omega
        have e1 := HSL.out i hi1
        have e2 := HSH.out i (by omega)
        have HL := Lib.hid (show d.take i = l.filter (fun x => !p x) by rw [h1.out, List.take_length])
        have HLN := Lib.hid (show i = (l.filter fun x => !p x).length by rw [← HL.out, List.length_take, hd.out]; omega)
        obtain ⟨w4, hcl, hR4, hK4⟩ := hR.out.clear i (c - i) (by rw [hd.out]; exact hi1) 0
        rw [hd.out] at hcl
        have HR4 := Lib.hid hR4
        have HK4 := Lib.hid (hK.out.trans hK4 fun _ e => .inl e)
        clear hR4 hK4 hR hK h1 h2 HSL HSH hd hlt HP HKW
        go_wp2_with fail
        go_ret
        exact ⟨congrArg (fun n => Ending.returned (.slice (some ⟨b, 0, none⟩) n c)) HLN.out, by rw [← HL.out]; exact HR4.out, HK4.out⟩
end
end Go.Proofs.Ytfmloifgngembaa
