/- Layer 15: divide, over any closure that only reads. -/
import Derived.Test.YtfmloifgngembaaEvKey
import Derived.Test.YtfmloifgngembaaRf15
import Derived.Test.YtfmloifgngembaaApG
namespace Go.Proofs.Ytfmloifgngembaa
open Go.RowKit

section
variable {F : Nat} {cs : Array Value} {p : EvI → Bool} {KW : World → Prop} {A : Option Addr} {c : Nat} {l : List EvI} {w : World}
set_option maxRecDepth 100000 in
set_option maxHeartbeats 2000000 in
theorem divide_any (henter : ∀ args w, (callFunc F args).run Try.prog w = .ok (.enter F args) w) (hl : l.length ≤ 200000) (hS : SlAt encEv 3 w A l) (hK : KW w) (hb : ∀ W, KW w → Below w.heap.size w W → KW W)
    (hp : ∀ x ∈ l, ∀ W, KW W → Calls Try.prog F (#[evV x] ++ cs) W fun e w' => e = .returned (.bool (p x)) ∧ Below W.heap.size W w') :
    Calls Try.prog 30 #[.slice A l.length c, .func (.func F) #[] cs] w fun e w' => ∃ (A1 A2 : Option Addr) (c1 c2 : Nat), e = .returned (.tuple #[.slice A1 (l.filter p).length c1, .slice A2 (l.filter fun x => !p x).length c2]) ∧
      w'.ownsRow w.heap.size 39 3 (.slice A1 (l.filter p).length c1) (l.filter p).length (flatL encEv (l.filter p)) ∧ w'.ownsRow w.heap.size 39 3 (.slice A2 (l.filter fun x => !p x).length c2) (l.filter fun x => !p x).length (flatL encEv (l.filter fun x => !p x)) ∧ Below w.heap.size w w' := by
  obtain ⟨i0, hi, hz0, hz1, hz2⟩ := info_parts infoEv
  have HS := Lib.hid hS
  have HKW := Lib.hid (fun W h => hb W hK h)
  have HP := Lib.hid hp
  clear hS hK hb hp
  go_enter Try.func30, Try.ntmps30
  go_wp2_with fail
  go_loopw [4, 5, 10] (fun v1 v2 i wr => ∃ k : Nat, k ≤ l.length ∧ i = .int .i64 k ∧ ∃ (A1 A2 : Option Addr) (c1 c2 : Nat), v1 = .slice A1 ((l.take k).filter p).length c1 ∧ v2 = .slice A2 ((l.take k).filter fun x => !p x).length c2 ∧
    Hid (wr.ownsRow w.heap.size 39 3 (.slice A1 ((l.take k).filter p).length c1) ((l.take k).filter p).length (flatL encEv ((l.take k).filter p))) ∧ Hid (wr.ownsRow w.heap.size 39 3 (.slice A2 ((l.take k).filter fun x => !p x).length c2) ((l.take k).filter fun x => !p x).length (flatL encEv ((l.take k).filter fun x => !p x))) ∧ Hid (Apart A1 A2) ∧ Hid (Below w.heap.size w wr)) (fun _ _ i _ => l.length - (intOf i).toNat)
  case atStart => exact ⟨0, Nat.zero_le _, rfl, none, none, 0, 0, rfl, rfl, Lib.hid (World.ownsRow_nil _ _ _ _), Lib.hid (World.ownsRow_nil _ _ _ _), Lib.hid (Apart.none_left _), Lib.hid (Below.refl _ _)⟩
  case round =>
    obtain ⟨k, hk, rfl, A1, A2, c1, c2, rfl, rfl, h1, h2, hap, hB⟩ := hrel
    have hk0 : (0 : Int) ≤ (k : Int) := by omega
    by_cases hlt : k < l.length
    · obtain ⟨b, off, rfl, hb, hx, hx1, hx2⟩ := (HS.out.below hB.out).ev hlt
      have hk1 : (k : Int) < (l.length : Int) := by omega
      have KY := Lib.hid (show (p l[k] = true → (l.take (k + 1)).filter p = (l.take k).filter p ++ [l[k]] ∧ (l.take (k + 1)).filter (fun x => !p x) = (l.take k).filter (fun x => !p x)) ∧ (p l[k] = false → (l.take (k + 1)).filter p = (l.take k).filter p ∧ (l.take (k + 1)).filter (fun x => !p x) = (l.take k).filter (fun x => !p x) ++ [l[k]]) by
        rw [filt_take p hlt, filt_take (fun x => !p x) hlt]
        cases p l[k] <;> simp)
      have hl1 : ((l.take k).filter p).length ≤ 200000 := Nat.le_trans (List.length_filter_le _ _) (Nat.le_trans (List.length_take_le _ _) (by omega))
      have hl2 : ((l.take k).filter fun x => !p x).length ≤ 200000 := Nat.le_trans (List.length_filter_le _ _) (Nat.le_trans (List.length_take_le _ _) (by omega))
      have hBs := hB.out.size
      have HNW := Lib.hid (heap_alloc_new wr (.cells #[.int .i64 l[k].k, .int .u32 (l[k].u : Int), .int .u8 (l[k].f : Int)] 39))
      have HB1 := Lib.hid (hB.out.alloc hBs (.cells #[.int .i64 l[k].k, .int .u32 (l[k].u : Int), .int .u8 (l[k].f : Int)] 39))
      have hsz : wr.heap.size < (wr.alloc (.cells #[.int .i64 l[k].k, .int .u32 (l[k].u : Int), .int .u8 (l[k].f : Int)] 39)).heap.size := by simp
      have C := HP.out l[k] (List.getElem_mem hlt) _ (HKW.out _ HB1.out)
      have H1 := Lib.hid (own_below h1.out (below_al wr (.cells #[.int .i64 l[k].k, .int .u32 (l[k].u : Int), .int .u8 (l[k].f : Int)] 39)))
      have H2 := Lib.hid (own_below h2.out (below_al wr (.cells #[.int .i64 l[k].k, .int .u32 (l[k].u : Int), .int .u8 (l[k].f : Int)] 39)))
      clear h1 h2 HP
      generalize l[k] = x at *
      generalize (l.take k).filter p = Q1 at *
      generalize (l.take k).filter (fun x => !p x) = Q2 at *
      have HSZ := Lib.hid hsz
      clear hsz
      cases hpx : p x with
      | true =>
        obtain ⟨ht, hr⟩ := KY.out.1 hpx
        have HT := Lib.hid ht
        have HR := Lib.hid hr
        rw [hpx] at C
        unfold evV at C
        have C := Lib.hid C
        clear ht hr KY hpx
        go_wp2_with fail
        refine C.out.mono ?_
        rintro e w2 ⟨rfl, hb2⟩
        have hbox := (hb2.block _ HSZ.out).trans HNW.out
        have y0 := cell_of_row _ _ 0 _ _ _ hbox
        have y1 := cell_of_row _ _ 1 _ _ _ hbox
        have y2 := cell_of_row _ _ 2 _ _ _ hbox
        have hB2 := HB1.out.trans (hb2.mono HB1.out.size)
        have hs2 := hB2.size
        have HO1 := own_below H1.out hb2
        have HO2 := Lib.hid (own_below H2.out hb2)
        have HRW := Lib.hid (HO1.alloc (.cells #[.int .i64 x.k, .int .u32 (x.u : Int), .int .u8 (x.f : Int)] 39))
        have HO1 := Lib.hid HO1
        have HB2 := Lib.hid hB2
        have HSE := Lib.hid (slAt_ev (W := w2.alloc (.cells #[.int .i64 x.k, .int .u32 (x.u : Int), .int .u8 (x.f : Int)] 39)) x (heap_alloc_new _ _))
        have h63 : Q1.length + [x].length ≤ maxLen := by simp only [List.length_singleton, maxLen]; omega
        have h64 : (Q1.length + [x].length) * 16 ≤ 140737488355328 := by simp only [List.length_singleton]; omega
        have hba : w.heap.size ≤ (w2.alloc (.cells #[.int .i64 x.k, .int .u32 (x.u : Int), .int .u8 (x.f : Int)] 39)).heap.size := by simp; omega
        clear C hb2 HNW HB1 H1 H2 HSZ hbox hB2
        go_wp2_with (at_builtin; refine wpList_append_slg _ rfl _ _ 28 rfl w.heap.size 39 i0 _ 16 Try.underlying28 hi hz0 hz1 hz2 rfl (by decide) _ Q1.length _ rfl HRW.out ⟨w2.heap.size, 0, none⟩ [x] 1 1 rfl rfl encEv_len HSE.out (one_flatEv _) h63 h64 hba ?_; intro v' wz hown' hgrow hfr; obtain ⟨A3, c3, rfl⟩ := own_any hown'; have HAP := Lib.hid (apart_step _ HO2.out hap.out hgrow hfr); have HB3 := Lib.hid ((HB2.out.alloc hs2 (.cells #[.int .i64 x.k, .int .u32 (x.u : Int), .int .u8 (x.f : Int)] 39)).grown hgrow hba (fun k hk => (HO1.out.lt k hk).1)); have HO3 := Lib.hid hown'; clear hown' hgrow hfr)
        go_roundw
        case rel => exact ⟨k + 1, by omega, by go_num, A3, A2, c3, c2, by rw [HT.out, List.length_append]; rfl, by rw [HR.out], by rw [HT.out, List.length_append, flatL_append]; exact HO3, by rw [HR.out]; exact Lib.hid HAP.out.1, Lib.hid HAP.out.2, HB3⟩
        case measure => simp [intOf]; omega
      | false =>
        obtain ⟨ht, hr⟩ := KY.out.2 hpx
        have HT := Lib.hid ht
        have HR := Lib.hid hr
        rw [hpx] at C
        unfold evV at C
        have C := Lib.hid C
        clear ht hr KY hpx
        go_wp2_with fail
        refine C.out.mono ?_
        rintro e w2 ⟨rfl, hb2⟩
        have hbox := (hb2.block _ HSZ.out).trans HNW.out
        have y0 := cell_of_row _ _ 0 _ _ _ hbox
        have y1 := cell_of_row _ _ 1 _ _ _ hbox
        have y2 := cell_of_row _ _ 2 _ _ _ hbox
        have hB2 := HB1.out.trans (hb2.mono HB1.out.size)
        have hs2 := hB2.size
        have HO1 := Lib.hid (own_below H1.out hb2)
        have HO2 := own_below H2.out hb2
        have HRW := Lib.hid (HO2.alloc (.cells #[.int .i64 x.k, .int .u32 (x.u : Int), .int .u8 (x.f : Int)] 39))
        have HO2 := Lib.hid HO2
        have HB2 := Lib.hid hB2
        have HSE := Lib.hid (slAt_ev (W := w2.alloc (.cells #[.int .i64 x.k, .int .u32 (x.u : Int), .int .u8 (x.f : Int)] 39)) x (heap_alloc_new _ _))
        have h63 : Q2.length + [x].length ≤ maxLen := by simp only [List.length_singleton, maxLen]; omega
        have h64 : (Q2.length + [x].length) * 16 ≤ 140737488355328 := by simp only [List.length_singleton]; omega
        have hba : w.heap.size ≤ (w2.alloc (.cells #[.int .i64 x.k, .int .u32 (x.u : Int), .int .u8 (x.f : Int)] 39)).heap.size := by simp; omega
        clear C hb2 HNW HB1 H1 H2 HSZ hbox hB2
        go_wp2_with (at_builtin; refine wpList_append_slg _ rfl _ _ 28 rfl w.heap.size 39 i0 _ 16 Try.underlying28 hi hz0 hz1 hz2 rfl (by decide) _ Q2.length _ rfl HRW.out ⟨w2.heap.size, 0, none⟩ [x] 1 1 rfl rfl encEv_len HSE.out (one_flatEv _) h63 h64 hba ?_; intro v' wz hown' hgrow hfr; obtain ⟨A3, c3, rfl⟩ := own_any hown'; have HAP := Lib.hid (apart_step _ HO1.out hap.out.symm hgrow hfr); have HB3 := Lib.hid ((HB2.out.alloc hs2 (.cells #[.int .i64 x.k, .int .u32 (x.u : Int), .int .u8 (x.f : Int)] 39)).grown hgrow hba (fun k hk => (HO2.out.lt k hk).1)); have HO3 := Lib.hid hown'; clear hown' hgrow hfr)
        go_roundw
        case rel => exact ⟨k + 1, by omega, by go_num, A1, A3, c1, c3, by rw [HT.out], by rw [HR.out, List.length_append]; rfl, by rw [HT.out]; exact Lib.hid HAP.out.1, by rw [HR.out, List.length_append, flatL_append]; exact HO3, Lib.hid HAP.out.2.symm, HB3⟩
        case measure => simp [intOf]; omega
    · obtain rfl : k = l.length := by omega
      rw [List.take_length] at *
      clear HP HKW
      go_wp2_with fail
      go_ret2
      exact ⟨_, _, _, _, rfl, h1.out, h2.out, hB.out⟩
end
end Go.Proofs.Ytfmloifgngembaa
