/- The reference of layer 14: Release. -/
import Derived.Test.YtpfplniokjkcbaaLkQ
namespace Go.Proofs.Ytpfplniokjkcbaa
open Go.RowKit

/-- The locks of a list made free. -/
def setAll (L : List Int) (l : List Nat) : List Int := l.foldl (fun L i => L.set i (-1)) L
theorem setAll_len (l : List Nat) : ∀ L : List Int, (setAll L l).length = L.length := by
  induction l with
  | nil => intro L; rfl
  | cons i l ih => intro L; show (setAll (L.set i (-1)) l).length = _; rw [ih]; simp
theorem setAll_get (l : List Nat) : ∀ (L : List Int) (j : Nat), (setAll L l)[j]? = if j ∈ l ∧ j < L.length then some (-1) else L[j]? := by
  induction l with
  | nil => intro L j; simp [setAll]
  | cons i l ih =>
    intro L j
    show (setAll (L.set i (-1)) l)[j]? = _
    rw [ih, List.length_set, List.getElem?_set]
    by_cases h1 : j < L.length
    · by_cases h2 : j ∈ l
      · simp [h1, h2]
      · by_cases h3 : i = j
        · subst h3
          simp [h1]
        · have h4 : ¬ j = i := fun e => h3 e.symm
          simp [h2, h3, h4]
    · have h5 : L[j]? = none := List.getElem?_eq_none (by omega)
      by_cases h3 : i = j
      · subst h3
        simp [h1]
      · simp [h1, h3]
theorem setAll_held (L : List Int) (o : Int) : setAll L (heldL L o) = relL L o := by
  apply List.ext_getElem?
  intro j
  rw [setAll_get]
  unfold relL
  rw [List.getElem?_map]
  by_cases h1 : j < L.length
  · rw [List.getElem?_eq_getElem h1, Option.map_some]
    by_cases h2 : L[j] = o ∧ 0 ≤ o
    · rw [if_pos h2, if_pos ⟨mem_heldL.2 ⟨h2.2, h1, h2.1⟩, h1⟩]
    · rw [if_neg h2, if_neg fun h => h2 (by obtain ⟨h3, h4, h5⟩ := mem_heldL.1 h.1; exact ⟨h5, h3⟩)]
  · rw [List.getElem?_eq_none (by omega), if_neg fun h => h1 h.2]
    rfl
theorem setAll_take (L : List Int) {l : List Nat} {k : Nat} (h : k < l.length) : setAll L (l.take (k + 1)) = (setAll L (l.take k)).set l[k] (-1) := by
  unfold setAll
  rw [List.take_succ_eq_append_getElem h, List.foldl_append]
  rfl
theorem KeptO.drewO {S : Nat → Prop} {W W' : World} (h : KeptO S W W') : KeptO S W W'.drew := ⟨h.os, h.tape, h.output, h.size, h.block⟩
section
variable {B bw : Nat} {A : Option Addr} {c q : Nat} {L : List Int} {w : World}
set_option maxRecDepth 100000 in
set_option maxHeartbeats 4000000 in
theorem rrel14_any (o : Int) (hL : L.length ≤ 1000) (hR : RefT B bw A c L q w) :
    Calls Try.prog 14 #[.pointer (some ⟨bw, 0, none⟩), .int .i64 o] w fun e w' => e = .returned (.int .i64 ((heldL L o).length : Nat)) ∧ RefT B bw A c (relL L o) q w' ∧ KeptO (blkA A) w w' := by
  have HD := Lib.hid (rheld14_any (A := A) (c := c) (q := (q : Int)) o hL hR.sl)
  have HE := Lib.hid (setAll_held L o)
  have HM := Lib.hid (fun i (h : i ∈ heldL L o) => (mem_heldL.1 h).2)
  obtain ⟨c0, c1⟩ := hR.cells
  have HR := Lib.hid hR
  have HAP := Lib.hid hR.apart
  have hHl := heldL_len L o
  unfold tbV at HD
  clear hR
  generalize heldL L o = H at *
  go_enter Try.func14, Try.ntmps14
  go_wp2_with fail
  refine HD.out.mono ?_
  rintro e w2 ⟨v, rfl, hown, hb⟩
  obtain ⟨A', c', rfl⟩ := own_any hown
  have R2 := Lib.hid (show RefT B bw A c (setAll L (H.take 0)) q w2 from HR.out.below hb)
  have HS := Lib.hid (SlAt.of_own encK_len hown)
  have HB := Lib.hid hb
  have HN := Lib.hid (show ∀ a, A' = some a → w.heap.size ≤ a.block from fun a ha => by
    rcases hown.2 with ⟨h1, _⟩ | ⟨g, cap, cur, h1, hg, _⟩
    · injection h1 with h1
      rw [h1] at ha
      cases ha
    · injection h1 with h1
      rw [h1] at ha
      injection ha with ha
      subst ha
      exact hg)
  have HAl := Lib.hid (show ∀ b, blkA A b → b < w.heap.size from fun b ⟨a, ha, hb⟩ => by
    rcases HR.out.row.2 with ⟨h1, _⟩ | ⟨g, cap, cur, h1, hg, h3, _⟩
    · injection h1 with h1
      rw [h1] at ha
      cases ha
    · injection h1 with h1
      rw [h1] at ha
      injection ha with ha
      subst ha
      rw [hb]
      exact (Array.getElem?_eq_some_iff.1 h3).1)
  clear hown hb HD c0 c1
  go_wp2_with fail
  go_loopw [6] (fun i wr => ∃ k : Nat, k ≤ H.length ∧ i = .int .i64 k ∧ Hid (RefT B bw A c (setAll L (H.take k)) q wr) ∧ Hid (KeptO (blkA A) w2 wr)) (fun i _ => H.length - (intOf i).toNat)
  case atStart => exact ⟨0, Nat.zero_le _, rfl, R2, Lib.hid (KeptO.refl _ _)⟩
  case round =>
    obtain ⟨k, hk, rfl, HRk, HK⟩ := hrel
    by_cases hlt : k < H.length
    · obtain ⟨hml, -⟩ := HM.out H[k] (List.getElem_mem hlt)
      have hml2 : H[k] < (setAll L (H.take k)).length := by rw [setAll_len]; exact hml
      obtain ⟨g, rfl, hg, hx, hf⟩ := HRk.out.at_ hml2
      obtain ⟨d0, -⟩ := HRk.out.cells
      rw [setAll_len] at d0
      obtain ⟨b, off, rfl, hb2, hcl⟩ := (HS.out.keptO (fun a ha ⟨a2, h1, h2⟩ => by
        have := HN.out a ha
        have := HAl.out _ ⟨a2, h1, rfl⟩
        omega) HK.out).at_ hlt
      have hz : wr.cell? ⟨b, off + k, none⟩ = some (.int .i64 ((H[k] : Nat) : Int)) := by
        have := hcl 0 _ rfl
        rw [show off + k * 1 + 0 = off + k by omega] at this
        exact this
      have R3 := Lib.hid (show RefT B bw (some ⟨g, 0, none⟩) c (setAll L (H.take (k + 1))) q (wr.setCell ⟨g, H[k], none⟩ (.int .i64 (-1))) by
        rw [setAll_take L hlt]
        exact HRk.out.set hml2 (-1))
      have K3 := Lib.hid (HK.out.trans (KeptO.of_grown (S := blkA (some ⟨g, 0, none⟩)) (grown_setCell wr g H[k] (.int .i64 (-1))) (fun r hr => by cases hr; exact ⟨_, rfl, rfl⟩)) fun _ e => .inl e)
      have hk0 : (0 : Int) ≤ (k : Int) := by omega
      have hk1 : (k : Int) < ((H.length : Nat) : Int) := by omega
      have hy0 : (0 : Int) ≤ ((H[k] : Nat) : Int) := by omega
      have hy1 : ((H[k] : Nat) : Int) < ((L.length : Nat) : Int) := by omega
      generalize (setAll L (H.take k))[H[k]]'hml2 = y at *
      clear hml2 hcl
      generalize H[k] = z at *
      go_upto_region 5 with (fail)
      go_region
      all_goals
        go_wp2_with fail
        go_roundw
        case rel => exact ⟨k + 1, by omega, by go_num, Lib.hid (R3.out.below (below_drew 1)), Lib.hid K3.out.drewO⟩
        case measure => simp [intOf]; omega
    · obtain rfl : k = H.length := by omega
      rw [List.take_length] at HRk
      go_wp2_with fail
      go_ret
      exact ⟨rfl, by rw [← HE.out]; exact HRk.out, KeptO.after_below HB.out HK.out⟩
end
end Go.Proofs.Ytpfplniokjkcbaa
