/- The law ViewPlays. -/
import Derived.Test.YtefodmbaknedkaaL17A
namespace Go.Proofs.Ytefodmbaknedkaa
open Go.RowKit

/-- A list of events in a slice of such lists. -/
structure EvL where
  A : Option Addr
  c : Nat
  es : List EvI
def encEL (x : EvL) : List Value := [.slice x.A x.es.length x.c]
theorem encEL_len (x : EvL) : (encEL x).length = 1 := rfl
theorem SlAt.evl {w : World} {A : Option Addr} {l : List EvL} (h : SlAt encEL 1 w A l) {j : Nat} (hj : j < l.length) :
    ∃ b off, A = some ⟨b, off, none⟩ ∧ b < w.heap.size ∧ w.cell? ⟨b, off + j, none⟩ = some (.slice l[j].A l[j].es.length l[j].c) := by
  obtain ⟨b, off, hA, hb, hc⟩ := h.at_ hj
  exact ⟨b, off, hA, hb, by simpa using hc 0 _ rfl⟩
/-- A list that reads, its array an item. -/
def slI (A : Option Addr) (l : List Nat) : Item where
  blocks k := l ≠ [] ∧ ∃ a, A = some a ∧ a.block = k
  holds W := SlAt encU 1 W A l
  kept W W' h hs hb := by
    rcases h with h | ⟨b, off, hA, hlt, hc⟩
    · exact .inl h
    · by_cases h0 : l = []
      · exact .inl h0
      · exact .inr ⟨b, off, hA, Nat.lt_of_lt_of_le hlt hs, fun j x hj i v hi => (World.cell?_of_block (a := ⟨b, off + j * 1 + i, none⟩) (hb b ⟨h0, _, hA, rfl⟩)).trans (hc j x hj i v hi)⟩
  lt W h k hk := by
    obtain ⟨h0, a, ha, rfl⟩ := hk
    rcases h with h | ⟨b, off, hA, hlt, _⟩
    · exact absurd h h0
    · rw [hA] at ha
      cases ha
      exact hlt
section
variable {B g : Nat} {V : List Nat} {A : Option Addr} {w0 W : World}
/-- The reference's Apply beside the view. -/
theorem OX.vref (h : OX B (VT g V) [slI A V] w0 W) (c : Nat) (hv : V.length ≤ 50000) (A2 : Option Addr) (c2 : Nat) (es : List EvI) (hl : es.length ≤ 10000) (hok : ∀ e ∈ es, evOk e) (hS : SlAt encEv 3 W A2 es) :
    Calls Try.prog 12 #[.slice A V.length c, .slice A2 es.length c2] W fun e w' => ∃ (A8 A9 : Option Addr) (c8 c9 : Nat), e = .returned (.tuple #[.slice A8 (apV V false es).1.length c8, .slice A9 (apV V false es).2.length c9]) ∧ OX B (VT g V) [rsI B A9 c9 (apV V false es).2, slI A8 (apV V false es).1] w0 w' := by
  refine (rapply17_any A c V h.vgood hv (h.it _ (List.mem_cons_self ..)) A2 c2 es hl hok hS).mono ?_
  rintro e w' ⟨A8, A9, c8, c9, rfl, s8, nw, ho, hb⟩
  refine ⟨A8, A9, c8, c9, rfl, ?_⟩
  rcases nw with ⟨rfl, e2⟩ | nw
  · rw [e2]
    have := h.add (VT.objK g V) hb [rsI B A9 c9 (apV V false es).2] (fun x hx => by
      obtain rfl := List.mem_singleton.1 hx
      exact ⟨own_mono ho h.sz, fun k ⟨a, ha, e⟩ => e ▸ own_from ho a ha⟩)
    exact this
  · have := h.add (VT.objK g V) hb [rsI B A9 c9 (apV V false es).2, slI A8 (apV V false es).1] (fun x hx => by
      rcases List.mem_cons.1 hx with rfl | hx
      · exact ⟨own_mono ho h.sz, fun k ⟨a, ha, e⟩ => e ▸ own_from ho a ha⟩
      · obtain rfl := List.mem_singleton.1 hx
        exact ⟨s8, fun k ⟨_, a, ha, e⟩ => e ▸ nw a ha⟩)
    exact this.sub fun x hx => by
      rcases List.mem_cons.1 hx with rfl | hx
      · exact List.mem_cons_self ..
      · obtain rfl := List.mem_singleton.1 hx
        exact List.mem_cons_of_mem _ (List.mem_cons_self ..)
end
set_option maxRecDepth 100000 in
set_option maxHeartbeats 4000000 in
theorem plays_main (A : Option Addr) (c : Nat) (l : List Nat) (hl : l.length ≤ 60) (hb : ∀ n ∈ l, n ≤ 4294967295) (A2 : Option Addr) (c2 : Nat) (ls : List EvL) (hls : ls.length ≤ 20) (hel : ∀ x ∈ ls, x.es.length ≤ maxLen ∧ x.es.length ≤ x.c) (w : World) (hok : ∀ x ∈ ls, SlAt encEv 3 w x.A x.es ∧ ∀ e ∈ x.es, evOk e) (hS : SlAt encU 1 w A l) (hS2 : SlAt encEL 1 w A2 ls) :
    Calls Try.prog 3 #[.slice A l.length c, .slice A2 ls.length c2] w fun e w' => e = .returned (.bool true) ∧ Below w.heap.size w w' := by
  unfold maxLen at hel
  obtain ⟨O, hO, hol⟩ := isSet_ex l
  have hl1 : ¬ (60 : Int) < (l.length : Int) := by omega
  have hl2 : ¬ (20 : Int) < (ls.length : Int) := by omega
  have AL := Lib.hid (fun W => alive17_any W)
  have NV := Lib.hid (vnew_any A c l O (by omega) hb hO w hS)
  have NR := Lib.hid (fun W (hW : Below w.heap.size w W) => rnew_any (c := c) O (by omega) hb hO (hS.below hW))
  have HOL := Lib.hid (Nat.le_trans hol hl)
  have HS2 := Lib.hid hS2
  have HOK := Lib.hid hok
  have HEL := Lib.hid hel
  clear hS hO hb hol hS2 hok hel
  go_enter Try.func3, Try.ntmps3
  go_wp2_with fail
  refine NV.out.mono ?_
  rintro e w1 ⟨g, S, rfl, t1, s1, hb1⟩
  have Q1 : Hid (OX w.heap.size (VT g O) [] w w1) := Lib.hid (OX.start rfl t1 s1 hb1)
  clear t1 s1 hb1 NV
  go_wp2_with fail
  refine (NR.out _ Q1.out.be).mono ?_
  rintro e w2 ⟨v, rfl, ho, hb2⟩
  obtain ⟨A3, c3, rfl⟩ := own_any ho
  have Q2 : Hid (OX w.heap.size (VT g O) [slI A3 O] w w2) := Lib.hid (Q1.out.add (VT.objK g O) hb2 [slI A3 O] (fun x hx => by
    obtain rfl := List.mem_singleton.1 hx
    exact ⟨SlAt.of_own encU_len ho, fun k ⟨_, a, ha, e⟩ => e ▸ own_from ho a ha⟩))
  have hlo := HOL.out
  clear Q1 ho hb2 NR
  go_wp2_with fail
  go_loopw [6, 8, 9, 10, 28] (fun s6 s8 s9 s10 i wr => ∃ k : Nat, k ≤ ls.length ∧ i = .int .i64 k ∧ ∃ (V : List Nat) (A7 : Option Addr) (c7 : Nat), s6 = .slice A7 V.length c7 ∧ V.length ≤ 60 + 30 * k ∧ Hid (OX w.heap.size (VT g V) [slI A7 V] w wr)) (fun _ _ _ _ i _ => ls.length - (intOf i).toNat)
  case atStart => exact ⟨0, Nat.zero_le _, rfl, O, A3, c3, rfl, by omega, Q2⟩
  case round =>
    obtain ⟨k, hk, rfl, V, A7, c7, rfl, hvl, hQ⟩ := hrel
    clear Q2
    have hk0 : (0 : Int) ≤ (k : Int) := by omega
    by_cases hlt : k < ls.length
    · obtain ⟨b, off, rfl, hb, hx⟩ := (HS2.out.below hQ.out.be).evl hlt
      have hk1 : (k : Int) < (ls.length : Int) := by omega
      obtain ⟨hs, ho⟩ := HOK.out ls[k] (List.getElem_mem hlt)
      have HSE := Lib.hid hs
      have HOE := Lib.hid ho
      obtain ⟨hm, hcp⟩ := HEL.out ls[k] (List.getElem_mem hlt)
      clear hs ho
      generalize ls[k].es = es at *
      generalize ls[k].A = Ae at *
      generalize ls[k].c = ce at *
      by_cases he : es.length ≤ 30
      · have he1 : ¬ (30 : Int) < (es.length : Int) := by omega
        have C1 := Lib.hid (hQ.out.vref c7 (by omega) Ae ce es (by omega) HOE.out (HSE.out.below hQ.out.be))
        have HLW := Lib.hid (arg_low17 HSE.out)
        have HVL := Lib.hid (show (apV V false es).1.length ≤ 60 + 30 * (k + 1) by rw [apV_view]; have := foldV_len es V; omega)
        have HRL := Lib.hid (show (apV V false es).2.length ≤ 1000 by have := apV_len es V false; omega)
        have HP := Lib.hid (apV_plain es V false)
        go_wp2_with fail
        refine C1.out.mono ?_
        rintro e w3 ⟨A8, A9, c8, c9, rfl, q3⟩
        have C3 := Lib.hid (q3.vapply Ae ce es hcp (by omega) (by omega) HOE.out (HSE.out.below q3.be) (HLW.out.imp id .inl))
        clear q3 C1 hQ hx
        generalize (apV V false es).1 = V2 at *
        generalize (apV V false es).2 = R at *
        go_wp2_with fail
        refine C3.out.mono ?_
        rintro e w4 ⟨A10, c10, rfl, q4⟩
        have hvl2 := HVL.out
        have hrl := HRL.out
        have C4 := Lib.hid (same0_any R A10 A9 c10 c9 R.length rfl (by omega) _ (rsI_at HP.out (q4.it _ (List.mem_cons_self ..))) (rsI_at HP.out (q4.it _ (List.mem_cons_of_mem _ (List.mem_cons_self ..)))))
        have Q4 : Hid (OX w.heap.size (VT g V2) [slI A8 V2] w w4) := Lib.hid (q4.sub fun x hx => List.mem_cons_of_mem _ (List.mem_cons_of_mem _ hx))
        clear q4 C3 HP
        go_wp2_with fail
        refine C4.out.mono ?_
        rintro e w5 ⟨rfl, hb5⟩
        have C5 := Lib.hid ((Q4.out.vbel hb5).vuids (by omega))
        clear hb5 C4 Q4
        go_wp2_with fail
        refine C5.out.mono ?_
        rintro e w6 ⟨A11, c11, rfl, q6⟩
        have E6 := equalU_any A11 A8 c11 c8 V2 V2 (by omega) (by omega) _ (u32I_at (q6.it _ (List.mem_cons_self ..))) (q6.it _ (List.mem_cons_of_mem _ (List.mem_cons_self ..)))
        rw [decide_eq_true rfl] at E6
        have E6 := Lib.hid E6
        have Q6 : Hid (OX w.heap.size (VT g V2) [slI A8 V2] w w6) := Lib.hid (q6.sub fun x hx => List.mem_cons_of_mem _ hx)
        clear q6 C5
        go_wp2_with fail
        refine E6.out.mono ?_
        rintro e w7 ⟨rfl, hb7⟩
        have C7 := Lib.hid ((Q6.out.vbel hb7).vlen)
        clear hb7 E6 Q6
        go_wp2_with fail
        refine C7.out.mono ?_
        rintro e w8 ⟨rfl, q8⟩
        have Q8 := Lib.hid q8
        clear q8 C7
        go_wp2_with fail
        go_roundw
        case rel => exact ⟨k + 1, by omega, by go_num, V2, A8, c8, rfl, hvl2, Q8⟩
        case measure => simp [intOf]; omega
      · have he1 : (30 : Int) < (es.length : Int) := by omega
        have HB := Lib.hid hQ.out.be
        clear he hQ
        go_wp2_with fail
        refine (AL.out _).mono ?_
        rintro e w3 ⟨rfl, h3⟩
        have HF := Lib.hid (below_next HB.out h3)
        clear h3
        go_wp2_with fail
        go_ret
        exact ⟨rfl, HF.out⟩
    · obtain rfl : k = ls.length := by omega
      have HB := Lib.hid hQ.out.be
      clear hQ
      go_wp2_with fail
      refine (AL.out _).mono ?_
      rintro e w3 ⟨rfl, h3⟩
      have HF := Lib.hid (below_next HB.out h3)
      clear h3
      go_wp2_with fail
      go_ret
      exact ⟨rfl, HF.out⟩
theorem viewPlays_law (A : Option Addr) (c : Nat) (l : List Nat) (hlm : l.length ≤ maxLen) (hb : ∀ n ∈ l, n ≤ 4294967295) (A2 : Option Addr) (c2 : Nat) (ls : List EvL) (hem : ls.length ≤ maxLen) (hel : ∀ x ∈ ls, x.es.length ≤ maxLen ∧ x.es.length ≤ x.c) (w : World) (hS : SlAt encU 1 w A l) (hS2 : SlAt encEL 1 w A2 ls) (hok : ∀ x ∈ ls, SlAt encEv 3 w x.A x.es ∧ ∀ e ∈ x.es, evOk e) :
    Calls Try.prog 3 #[.slice A l.length c, .slice A2 ls.length c2] w fun e w' => e = .returned (.bool true) ∧ Below w.heap.size w w' := by
  unfold maxLen at hlm hem
  have AL := Lib.hid (alive17_any w)
  by_cases hl : l.length ≤ 60
  · by_cases he : ls.length ≤ 20
    · exact plays_main A c l hl hb A2 c2 ls he hel w hok hS hS2
    · have hl1 : ¬ (60 : Int) < (l.length : Int) := by omega
      have hl2 : (20 : Int) < (ls.length : Int) := by omega
      clear hl he hS hS2 hb hok hel
      generalize l.length = n1 at *
      generalize ls.length = n2 at *
      go_enter Try.func3, Try.ntmps3
      go_wp2_with fail
      refine AL.out.mono ?_
      rintro e w1 ⟨rfl, hb⟩
      go_wp2_with fail
      go_ret
      exact ⟨rfl, hb⟩
  · have hl1 : (60 : Int) < (l.length : Int) := by omega
    clear hl hS hS2 hb hok hel
    generalize l.length = n1 at *
    generalize ls.length = n2 at *
    go_enter Try.func3, Try.ntmps3
    go_wp2_with fail
    refine AL.out.mono ?_
    rintro e w1 ⟨rfl, hb⟩
    go_wp2_with fail
    go_ret
    exact ⟨rfl, hb⟩
end Go.Proofs.Ytefodmbaknedkaa
