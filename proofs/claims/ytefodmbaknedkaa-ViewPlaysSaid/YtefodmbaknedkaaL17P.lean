/- The law ViewPlaces. -/
import Derived.Test.YtefodmbaknedkaaL17Z
namespace Go.Proofs.Ytefodmbaknedkaa
open Go.RowKit

theorem at_in {l : List Nat} {k : Nat} (hk : k < l.length) : atL l ((k : Int) + 1) = (l[k], true) := by
  unfold atL
  rw [if_pos ⟨by omega, by omega⟩, show (((k : Int) + 1) - 1).toNat = k by omega, getElem!_pos l k hk]
theorem at_out {l : List Nat} {p : Int} (h : ¬ (1 ≤ p ∧ p ≤ l.length)) : atL l p = (0, false) := if_neg h
theorem pos_at {l : List Nat} (ha : l.Pairwise (· < ·)) {k : Nat} (hk : k < l.length) : posL l l[k] = k + 1 := by
  unfold posL
  rw [if_pos (List.getElem_mem hk), cnt_at ha hk]
set_option maxRecDepth 100000 in
set_option maxHeartbeats 2000000 in
theorem places_main (A : Option Addr) (c : Nat) (l : List Nat) (hl : l.length ≤ 60) (hb : ∀ n ∈ l, n ≤ 4294967295) (u : Nat) (hu : u ≤ 4294967295) (p : Int) (hp1 : -9223372036854775808 ≤ p) (hp2 : p ≤ 9223372036854775807) (w : World) (hS : SlAt encU 1 w A l) :
    Calls Try.prog 4 #[.slice A l.length c, .int .u32 u, .int .i64 p] w fun e w' => e = .returned (.bool true) ∧ Below w.heap.size w w' := by
  obtain ⟨O, hO, hol⟩ := isSet_ex l
  have hl1 : ¬ (60 : Int) < (l.length : Int) := by omega
  have AL := Lib.hid (fun W => alive17_any W)
  have NV := Lib.hid (vnew_any A c l O (by omega) hb hO w hS)
  have NR := Lib.hid (fun W (hW : Below w.heap.size w W) => rnew_any (c := c) O (by omega) hb hO (hS.below hW))
  have HO := Lib.hid hO
  have HOL := Lib.hid (Nat.le_trans hol hl)
  clear hS hO hb hol
  go_enter Try.func4, Try.ntmps4
  go_wp2_with fail
  refine NV.out.mono ?_
  rintro e w1 ⟨g, S, rfl, t1, s1, hb1⟩
  have Q1 : Hid (OX w.heap.size (VT g O) [] w w1) := Lib.hid (OX.start rfl t1 s1 hb1)
  clear t1 s1 hb1 NV
  go_wp2_with fail
  refine (NR.out _ Q1.out.be).mono ?_
  rintro e w2 ⟨v, rfl, ho, hb2⟩
  obtain ⟨A2, c2, rfl⟩ := own_any ho
  have Q2 := Lib.hid (Q1.out.vrow ho hb2)
  have C2 := Lib.hid (Q2.out.vat p ⟨hp1, hp2⟩)
  have hlo := HOL.out
  clear Q1 ho hb2 NR
  by_cases h : 1 ≤ p ∧ p ≤ (O.length : Int)
  · obtain ⟨k, rfl⟩ : ∃ k : Nat, p = (k : Int) + 1 := ⟨(p - 1).toNat, by omega⟩
    have hk : k < O.length := by omega
    have HP := Lib.hid (pos_at HO.out.1 hk)
    have hx : O[k] ≤ 4294967295 := (Q2.out.vgood.2 _ (List.getElem_mem hk)).2
    rw [at_in hk] at C2
    have C2 := Lib.hid C2
    have h1 : decide ((1 : Int) ≤ (k : Int) + 1) = true := by simp; omega
    have h2 : (k : Int) + 1 ≤ (O.length : Int) := by omega
    have hwk : IntKind.i64.wrap ((k : Int) + 1 - 1) = (k : Int) := by rw [show (k : Int) + 1 - 1 = (k : Int) by omega]; exact IntWalk.i64_in _ (by omega)
    clear h
    go_wp2_with fail
    refine C2.out.out.mono ?_
    rintro e w3 ⟨rfl, q3⟩
    have Q3 := Lib.hid q3
    clear q3 C2 Q2
    go_wp2_with fail
    refine (AL.out _).mono ?_
    rintro e w4 ⟨rfl, h4⟩
    have C4 := Lib.hid ((Q3.out.vbel h4).vseq u hu)
    clear h4 Q3
    go_wp2_with fail
    refine C4.out.mono ?_
    rintro e w5 ⟨rfl, q5⟩
    have hs5 := u32I_at (q5.it _ (List.mem_cons_self ..))
    have C5 := Lib.hid (rpos_any (c := c2) u (by omega) q5.vgood.1 hs5)
    obtain ⟨b, off, rfl, hb5, hx5⟩ := hs5.one hk
    have C6 := q5.vseq O[k] hx
    rw [HP.out] at C6
    have C6 := Lib.hid C6
    generalize O[k] = y at *
    generalize posL O u = z at *
    clear C4 q5 HP
    go_wp2_with fail
    refine C5.out.mono ?_
    rintro e w6 ⟨rfl, rfl⟩
    clear C5
    go_wp2_with fail
    refine C6.out.mono ?_
    rintro e w7 ⟨rfl, q7⟩
    have HB := Lib.hid q7.be
    clear q7 C6
    go_wp2_with fail
    go_ret
    exact ⟨by simp, HB.out⟩
  · rw [at_out h] at C2
    have C2 := Lib.hid C2
    have NI : ∀ (W : World) (h : OX w.heap.size (VT g O) [u32I w.heap.size A2 c2 O] w W), Calls Try.prog 20 #[.slice A2 O.length c2, .int .u32 u] W fun e w' => e = .returned (.int .i64 (posL O u : Nat)) ∧ W = w' := fun W h => rpos_any (c := c2) u (by omega) h.vgood.1 (u32I_at (h.it _ (List.mem_cons_self ..)))
    have NI := Lib.hid NI
    by_cases h1 : 1 ≤ p
    · have h2 : ¬ p ≤ (O.length : Int) := fun e => h ⟨h1, e⟩
      clear h
      go_wp2_with fail
      refine C2.out.out.mono ?_
      rintro e w3 ⟨rfl, q3⟩
      have Q3 := Lib.hid q3
      clear q3 C2 Q2
      go_wp2_with fail
      refine (AL.out _).mono ?_
      rintro e w4 ⟨rfl, h4⟩
      have C4 := Lib.hid ((Q3.out.vbel h4).vseq u hu)
      clear h4 Q3
      go_wp2_with fail
      refine C4.out.mono ?_
      rintro e w5 ⟨rfl, q5⟩
      have C5 := Lib.hid (NI.out _ q5)
      have HB := Lib.hid q5.be
      generalize posL O u = z at *
      clear C4 q5 NI
      go_wp2_with fail
      refine C5.out.mono ?_
      rintro e w6 ⟨rfl, rfl⟩
      clear C5
      go_wp2_with fail
      go_ret
      exact ⟨by simp, HB.out⟩
    · have h2 : decide ((1 : Int) ≤ p) = false := decide_eq_false h1
      clear h
      go_wp2_with fail
      refine C2.out.out.mono ?_
      rintro e w3 ⟨rfl, q3⟩
      have Q3 := Lib.hid q3
      clear q3 C2 Q2
      go_wp2_with fail
      refine (AL.out _).mono ?_
      rintro e w4 ⟨rfl, h4⟩
      have C4 := Lib.hid ((Q3.out.vbel h4).vseq u hu)
      clear h4 Q3
      go_wp2_with fail
      refine C4.out.mono ?_
      rintro e w5 ⟨rfl, q5⟩
      have C5 := Lib.hid (NI.out _ q5)
      have HB := Lib.hid q5.be
      generalize posL O u = z at *
      clear C4 q5 NI
      go_wp2_with fail
      refine C5.out.mono ?_
      rintro e w6 ⟨rfl, rfl⟩
      clear C5
      go_wp2_with fail
      go_ret
      exact ⟨by simp, HB.out⟩
theorem viewPlaces_law (A : Option Addr) (c : Nat) (l : List Nat) (hlm : l.length ≤ maxLen) (hb : ∀ n ∈ l, n ≤ 4294967295) (u : Nat) (hu : u ≤ 4294967295) (p : Int) (hp1 : -9223372036854775808 ≤ p) (hp2 : p ≤ 9223372036854775807) (w : World) (hS : SlAt encU 1 w A l) :
    Calls Try.prog 4 #[.slice A l.length c, .int .u32 u, .int .i64 p] w fun e w' => e = .returned (.bool true) ∧ Below w.heap.size w w' := by
  unfold maxLen at hlm
  by_cases hl : l.length ≤ 60
  · exact places_main A c l hl hb u hu p hp1 hp2 w hS
  · have hl1 : (60 : Int) < (l.length : Int) := by omega
    have AL := Lib.hid (alive17_any w)
    clear hl hS hb
    generalize l.length = n at *
    go_enter Try.func4, Try.ntmps4
    go_wp2_with fail
    refine AL.out.mono ?_
    rintro e w1 ⟨rfl, hb⟩
    go_wp2_with fail
    go_ret
    exact ⟨rfl, hb⟩
end Go.Proofs.Ytefodmbaknedkaa
