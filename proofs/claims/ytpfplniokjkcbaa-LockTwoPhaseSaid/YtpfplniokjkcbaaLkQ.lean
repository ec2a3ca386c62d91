/- The reference of layer 14: Acquire. -/
import Derived.Test.YtpfplniokjkcbaaLkA
namespace Go.Proofs.Ytpfplniokjkcbaa
open Go.RowKit

section
variable {B bw : Nat} {A : Option Addr} {c q : Nat} {L : List Int} {w : World}
/-- What Acquire leaves of the reference's table. -/
def AqPo (B bw : Nat) (A : Option Addr) (c : Nat) (L : List Int) (q : Nat) (o k : Int) (w : World) (e : Ending) (w' : World) : Prop :=
  e = .returned (.int .i64 (acqL L o k).2) ∧ RefT B bw A c (acqL L o k).1 (if (acqL L o k).2 = 0 then q + 1 else q) w' ∧ KeptO (fun b => b = bw ∨ blkA A b) w w'
theorem AqPo.same {o k cd : Int} {w' : World} (hR : RefT B bw A c L q w) (h : acqL L o k = (L, cd)) (hc : cd ≠ 0) (hb : Below w.heap.size w w') : AqPo B bw A c L q o k w (.returned (.int .i64 cd)) w' := by
  unfold AqPo
  rw [h]
  refine ⟨rfl, ?_, KeptO.of_below hb⟩
  rw [if_neg hc]
  exact hR.below hb
set_option maxRecDepth 100000 in
set_option maxHeartbeats 2000000 in
theorem racq_range (o k : Int) (h : o < 0 ∨ k < 0 ∨ (L.length : Int) ≤ k) (hR : RefT B bw A c L q w) :
    Calls Try.prog 16 #[.pointer (some ⟨bw, 0, none⟩), .int .i64 o, .int .i64 k] w (AqPo B bw A c L q o k w) := by
  have HE := Lib.hid (show acqL L o k = (L, 2) from if_pos h)
  obtain ⟨c0, -⟩ := hR.cells
  have HR := Lib.hid hR
  clear hR
  by_cases h1 : o < 0
  · clear h
    generalize L.length = n at *
    go_enter Try.func16, Try.ntmps16
    go_wp2_with fail
    go_ret
    exact AqPo.same HR.out HE.out (by decide) (Below.refl _ _)
  · by_cases h2 : k < 0
    · clear h
      generalize L.length = n at *
      go_enter Try.func16, Try.ntmps16
      go_wp2_with fail
      go_ret
      exact AqPo.same HR.out HE.out (by decide) (Below.refl _ _)
    · have h3 : (L.length : Int) ≤ k := by omega
      clear h
      generalize L.length = n at *
      go_enter Try.func16, Try.ntmps16
      go_wp2_with fail
      go_ret
      exact AqPo.same HR.out HE.out (by decide) (Below.refl _ _)
set_option maxRecDepth 100000 in
set_option maxHeartbeats 4000000 in
theorem racq_in (o : Int) (j : Nat) (ho : 0 ≤ o) (hj : j < L.length) (hL : L.length ≤ 1000) (hq : q ≤ 1000000) (hR : RefT B bw A c L q w) :
    Calls Try.prog 16 #[.pointer (some ⟨bw, 0, none⟩), .int .i64 o, .int .i64 (j : Int)] w (AqPo B bw A c L q o j w) := by
  have HA := Lib.hid (show acqL L o j = if L[j] = o then (L, 8) else if overL L o j then (L, 10) else if 0 ≤ L[j] then (L, 9) else (L.set j o, 0) by
    unfold acqL
    rw [if_neg (by omega), ownL_at hj, Int.toNat_natCast])
  obtain ⟨c0, c1⟩ := hR.cells
  obtain ⟨g, rfl, hg, hx, hf⟩ := hR.at_ hj
  have hk0 : (0 : Int) ≤ (j : Int) := by omega
  have hk1 : (j : Int) < ((L.length : Nat) : Int) := by omega
  have ho' : ¬ o < 0 := by omega
  have HR := Lib.hid hR
  clear hR
  by_cases h1 : L[j] = o
  · have HE := Lib.hid (show acqL L o j = (L, 8) by rw [HA.out, if_pos h1])
    rw [h1] at hx
    clear HA h1 hj
    generalize L.length = n at *
    go_enter Try.func16, Try.ntmps16
    go_wp2_with fail
    go_ret
    exact AqPo.same HR.out HE.out (by decide) (Below.refl _ _)
  · have hb1 : (L[j] == o) = false := by simpa using h1
    have HD := Lib.hid (rheld14_any (A := some ⟨g, 0, none⟩) (c := c) (q := (q : Int)) o hL HR.out.sl)
    have HA2 := Lib.hid (show acqL L o j = if overL L o j then (L, 10) else if 0 ≤ L[j] then (L, 9) else (L.set j o, 0) by rw [HA.out, if_neg h1])
    have HOV := Lib.hid (overL_last (L := L) (o := o) (k := (j : Int)))
    have hHl := heldL_len L o
    unfold tbV at HD
    have hjj := Lib.hid hj
    generalize hy : L[j] = y at *
    have HY := Lib.hid hy
    clear HA h1 hj hy
    go_enter Try.func16, Try.ntmps16
    go_wp2_with fail
    refine HD.out.mono ?_
    rintro e w2 ⟨v, rfl, hown, hb⟩
    have HO := Lib.hid hown
    have HB := Lib.hid hb
    obtain ⟨A', c', rfl⟩ := own_any hown
    have w0 := (hb.cell (p := ⟨bw, 0, none⟩) HR.out.lt).trans c0
    have w1 := (hb.cell (p := ⟨bw, 1, none⟩) HR.out.lt).trans c1
    have x1 := (hb.cell (p := ⟨g, j, none⟩) (World.block_lt_of_cell? _ _ hx)).trans hx
    have f1 := (World.frozen?_of_block (a := ⟨g, j, none⟩) (hb.block g (World.block_lt_of_cell? _ _ hx))).trans hf
    clear hown hb HD c0 c1 hx hf
    generalize hH : heldL L o = H at *
    have HHq := Lib.hid hH
    clear hH
    by_cases hne : H = []
    · have hov : ¬ overL L o j := fun e => by
        obtain ⟨h, -⟩ := HOV.out.1 e
        exact h hne
      subst hne
      have HHn := Lib.hid hov
      simp only [List.length_nil] at *
      by_cases h0 : 0 ≤ y
      · have HE := Lib.hid (show acqL L o j = (L, 9) by rw [HA2.out, if_neg hov, if_pos h0])
        go_wp2_with fail
        go_ret
        exact AqPo.same HR.out HE.out (by decide) HB.out
      · have HE := Lib.hid (show acqL L o j = (L.set j o, 0) by rw [HA2.out, if_neg hov, if_neg h0])
        have R1 := (HR.out.below HB.out).set hjj.out o
        obtain ⟨d0, d1⟩ := R1.cells
        have d2 := R1.fz 1
        have R2 := Lib.hid (R1.cnt (fun a ha e => hg (by injection ha with ha; subst ha; exact e)) (q + 1))
        have K2 := Lib.hid (((KeptO.of_below (S := fun b => b = bw ∨ blkA (some ⟨g, 0, none⟩) b) HB.out).trans (KeptO.of_grown (S := fun b => b = bw ∨ blkA (some ⟨g, 0, none⟩) b) (grown_setCell w2 g j (.int .i64 o)) (fun r hr => by cases hr; exact .inr ⟨_, rfl, rfl⟩)) fun _ e => .inl e).trans (KeptO.of_grown (S := fun b => b = bw ∨ blkA (some ⟨g, 0, none⟩) b) (grown_setCell (w2.setCell ⟨g, j, none⟩ (.int .i64 o)) bw 1 (.int .i64 ((q + 1 : Nat) : Int))) (fun r hr => by cases hr; exact .inl rfl)) fun _ e => .inl e)
        have e2 := R2.out.lt
        clear R1
        go_wp2_with fail
        go_ret
        unfold AqPo
        rw [HE.out]
        exact ⟨rfl, by simpa using R2.out, by simpa using K2.out⟩
    · have hlen : 0 < H.length := List.length_pos_iff.2 hne
      have hS := SlAt.of_own encK_len HO.out
      have hm : H.length - 1 < H.length := by omega
      obtain ⟨b, off, rfl, hb2, hcl⟩ := hS.at_ hm
      have hlast := Lib.hid (List.getLast_eq_getElem hne)
      obtain ⟨m, hm1⟩ : ∃ m, H.length = m + 1 := ⟨H.length - 1, by omega⟩
      have hz : w2.cell? ⟨b, off + m, none⟩ = some (.int .i64 ((H[H.length - 1] : Nat) : Int)) := by
        have := hcl 0 _ rfl
        rw [show off + (H.length - 1) * 1 + 0 = off + m by omega] at this
        exact this
      generalize hlg : H[H.length - 1] = z at *
      have hov0 := Lib.hid (show overL L o j ↔ (j : Int) < (z : Int) from HOV.out.trans ⟨fun ⟨h, e⟩ => by rw [hlast.out] at e; exact e, fun e => ⟨hne, by rw [hlast.out]; exact e⟩⟩)
      clear hlg hcl hlast HOV hm
      rw [hm1] at hHl HO ⊢
      clear hm1 hne hlen HHq HO
      have hz1 : (0 : Int) < ((m : Nat) : Int) + 1 := by omega
      have hz2 : (0 : Int) ≤ ((m : Nat) : Int) := by omega
      have hz3 : ((m : Nat) : Int) < ((m : Nat) : Int) + 1 := by omega
      by_cases ho2 : (j : Int) < (z : Int)
      · have HE := Lib.hid (show acqL L o j = (L, 10) by rw [HA2.out, if_pos (hov0.out.2 ho2)])
        go_wp2_with fail
        go_ret
        exact AqPo.same HR.out HE.out (by decide) HB.out
      · have hov := fun e => ho2 (hov0.out.1 e)
        by_cases h0 : 0 ≤ y
        · have HE := Lib.hid (show acqL L o j = (L, 9) by rw [HA2.out, if_neg hov, if_pos h0])
          go_wp2_with fail
          go_ret
          exact AqPo.same HR.out HE.out (by decide) HB.out
        · have HE := Lib.hid (show acqL L o j = (L.set j o, 0) by rw [HA2.out, if_neg hov, if_neg h0])
          have R1 := (HR.out.below HB.out).set hjj.out o
          obtain ⟨d0, d1⟩ := R1.cells
          have d2 := R1.fz 1
          have R2 := Lib.hid (R1.cnt (fun a ha e => hg (by injection ha with ha; subst ha; exact e)) (q + 1))
          have K2 := Lib.hid (((KeptO.of_below (S := fun b => b = bw ∨ blkA (some ⟨g, 0, none⟩) b) HB.out).trans (KeptO.of_grown (S := fun b => b = bw ∨ blkA (some ⟨g, 0, none⟩) b) (grown_setCell w2 g j (.int .i64 o)) (fun r hr => by cases hr; exact .inr ⟨_, rfl, rfl⟩)) fun _ e => .inl e).trans (KeptO.of_grown (S := fun b => b = bw ∨ blkA (some ⟨g, 0, none⟩) b) (grown_setCell (w2.setCell ⟨g, j, none⟩ (.int .i64 o)) bw 1 (.int .i64 ((q + 1 : Nat) : Int))) (fun r hr => by cases hr; exact .inl rfl)) fun _ e => .inl e)
          have e2 := R2.out.lt
          clear R1
          go_wp2_with fail
          go_ret
          unfold AqPo
          rw [HE.out]
          exact ⟨rfl, by simpa using R2.out, by simpa using K2.out⟩
theorem racq14_any (o k : Int) (hL : L.length ≤ 1000) (hq : q ≤ 1000000) (hR : RefT B bw A c L q w) :
    Calls Try.prog 16 #[.pointer (some ⟨bw, 0, none⟩), .int .i64 o, .int .i64 k] w (AqPo B bw A c L q o k w) := by
  by_cases h : o < 0 ∨ k < 0 ∨ (L.length : Int) ≤ k
  · exact racq_range o k h hR
  · obtain ⟨j, rfl⟩ : ∃ j : Nat, k = j := ⟨k.toNat, by omega⟩
    exact racq_in o j (by omega) (by omega) hL hq hR
end
end Go.Proofs.Ytpfplniokjkcbaa
