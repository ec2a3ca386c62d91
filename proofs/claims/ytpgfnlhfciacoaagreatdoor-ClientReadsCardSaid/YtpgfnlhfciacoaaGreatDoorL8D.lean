import Derived.Test.YtpgfnlhfciacoaaGreatDoorPRef08R
import Derived.Test.YtpgfnlhfciacoaaGreatDoorPSameM
set_option maxRecDepth 100000
set_option maxHeartbeats 4000000
open Go.Lib renaming hid → Hi
namespace Go.Proofs.YtpgfnlhfciacoaaGreatDoor
open Go.RowKit
theorem RdF.mem {fs : List Fr} {cs : List Cmd} (h : RdF fs cs) {c : Cmd} (hc : c ∈ cs) : ∃ f ∈ fs, IsCmd f.data c true := by
 induction h with
 | nil => cases hc
 | skip _ _ ih =>
   obtain ⟨f, hf, hi⟩ := ih hc
   exact ⟨f, List.mem_append_left _ hf, hi⟩
 | @take fs cs f d _ _ hi ih =>
   rcases List.mem_append.1 hc with h | h
   · obtain ⟨g, hg, hj⟩ := ih h
     exact ⟨g, List.mem_append_left _ hg, hj⟩
   · obtain rfl := List.mem_singleton.1 h
     exact ⟨f, by simp, hi⟩
theorem RdF.len {fs : List Fr} {cs : List Cmd} (h : RdF fs cs) : cs.length ≤ fs.length := by
 induction h with
 | nil => simp
 | skip _ _ ih => rw [List.length_append]; omega
 | take _ _ _ ih => rw [List.length_append, List.length_append]; simp only [List.length_cons, List.length_nil]; omega
theorem reads_both {l : List UInt8} {w1 w2 w3 w4 : World} {e e2 : Ending} (h : CrPost l w1 e w2) (h2 : R8Post l w3 e2 w4) (hl : l.length ≤ 9000) :
 ∃ (q : Bool) (xs ys : List CX) (A B : Option Addr) (c d : Nat), xs.map (fun (x : CX) => x.c) = ys.map (fun x => x.c) ∧ e = .returned (.tuple #[.slice A xs.length c, .bool q]) ∧ XsAt w2 A xs ∧ (∃ C k f, e2 = .returned (.tuple #[.slice C k f, .bool q]) ∧ ((q = true ∧ B = C ∧ ys.length = k ∧ d = f) ∨ (q = false ∧ B = none ∧ ys = [] ∧ d = 0))) ∧ XsAt w4 B ys ∧
  (∀ x ∈ xs, x.c.set.length ≤ 1000000 ∧ x.c.data.length ≤ 1000000) ∧ (∀ x ∈ ys, x.c.set.length ≤ 1000000 ∧ x.c.data.length ≤ 1000000) ∧ xs.length ≤ 1000000 ∧ Below w1.heap.size w1 w2 ∧ Below w3.heap.size w3 w4 := by
 obtain ⟨fs, R, d, hr, hd, hc⟩ := h
 obtain ⟨fs', R', d', hr', hd', hc'⟩ := h2
 obtain ⟨rfl, rfl, rfl⟩ := hr.det hd hr' hd'
 have nil2 : ∀ w, XsAt w none [] := fun w => ⟨.inl rfl, fun x hx => by cases hx⟩
 rcases hc with ⟨hz, xs, cs, A, c, q1, q2, rfl, q4, q5⟩ | ⟨hbad, rfl, q5⟩
 · rcases hc' with ⟨ys, cs', B, d2, p1, p2, rfl, p4, p5⟩ | ⟨hb, _, _⟩
   · obtain rfl := p1.det q1
     have hbd : ∀ (zs : List CX), zs.map (fun (x : CX) => x.c) = cs'.map ciOf → ∀ x ∈ zs, x.c.set.length ≤ 1000000 ∧ x.c.data.length ≤ 1000000 := fun zs hz x hx => by
      have h1 : x.c ∈ zs.map (fun (x : CX) => x.c) := List.mem_map.2 ⟨x, hx, rfl⟩
      rw [hz] at h1
      obtain ⟨cm, hcm, he⟩ := List.mem_map.1 h1
      obtain ⟨f, hf, hi⟩ := p1.mem hcm
      have hfl := hr.len.2.2 f hf
      have := hi.bd (by omega)
      rw [← he]
      show cm.set.length ≤ 1000000 ∧ cm.data.length ≤ 1000000
      omega
     have hxl : xs.length ≤ 1000000 := by
      have h1 := congrArg List.length q2
      rw [List.length_map, List.length_map] at h1
      have h2 := p1.len
      have h3 := hr.len.1
      omega
     refine ⟨true, xs, ys, A, B, c, d2, by rw [q2, p2], rfl, q4, ⟨B, ys.length, d2, by rw [hz]; rfl, .inl ⟨rfl, rfl, rfl, rfl⟩⟩, p4, hbd xs q2, hbd ys p2, hxl, q5, p5⟩
   · exact absurd hb q1.notBad
 · rcases hc' with ⟨ys, cs', B, d2, p1, p2, rfl, p4, p5⟩ | ⟨hb, rfl, p5⟩
   · have hR : 0 < R.length := by
      rcases hbad with h | h
      · exact h
      · exact absurd h p1.notBad
     exact ⟨false, [], [], none, none, 0, 0, rfl, rfl, nil2 _, ⟨B, ys.length, d2, by rw [show decide (R.length = 0) = false from decide_eq_false (by omega)], .inr ⟨rfl, rfl, rfl, rfl⟩⟩, nil2 _, (fun x hx => by cases hx), (fun x hx => by cases hx), by simp, q5, p5⟩
   · exact ⟨false, [], [], none, none, 0, 0, rfl, rfl, nil2 _, ⟨none, 0, 0, rfl, .inr ⟨rfl, rfl, rfl, rfl⟩⟩, nil2 _, (fun x hx => by cases hx), (fun x hx => by cases hx), by simp, q5, p5⟩
theorem clientReads_any (A : Option Addr) (c : Nat) (l : List UInt8) (hlc : l.length ≤ maxLen) (w : World) (he : EnvB w.heap.size w) (hS : ByAt w.heap.size w A c l) :
 Calls Tryz.prog 5 #[.slice A l.length c] w fun e w' => e = .returned (.bool true) ∧ Below w.heap.size w w' := by
 unfold maxLen at hlc
 have AL := Hi (fun W (hW : Below w.heap.size w W) => alive8_any W ((he.below hW).mono hW.size))
 by_cases hbig : 3000 < l.length
 · have d1 : decide ((3000 : Int) < (l.length : Int)) = true := by simp; omega
   have d2 : decide (3000 < l.length) = true := by simpa using hbig
   clear hbig he hS
   generalize l.length = n at *
   go_enter Tryz.func5, Tryz.ntmps5
   go_wp2_with fail
   refine (AL.out w (Below.refl _ _)).mono ?_
   rintro e w1 ⟨rfl, hb⟩
   go_wp2_with fail
   go_ret
   exact ⟨rfl, hb⟩
 · have d1 : decide ((3000 : Int) < (l.length : Int)) = false := decide_eq_false (by omega)
   have d2 : decide (3000 < l.length) = false := by simpa using hbig
   have hfr : ∀ fs R d, Runs l 0 fs R d → Done R d → ∀ f ∈ fs, f.data.length ≤ 9000 := fun fs R d hr _ f hf => by have := hr.len.2.2 f hf; omega
   have CR := Hi (cread_any w.heap.size c l.length A l rfl (by omega) (short_of (by omega)) hfr w he hS)
   have RR := Hi (fun W (hW : Below w.heap.size w W) => rread_any w.heap.size c l.length A l rfl (by omega) hfr W (hS.below hW))
   have RB := Hi (fun (w1 w2 w3 w4 : World) (e e2 : Ending) (h : CrPost l w1 e w2) (h2 : R8Post l w3 e2 w4) => reads_both h h2 (by omega))
   clear hbig he hS hfr hlc
   generalize l.length = n at *
   go_enter Tryz.func5, Tryz.ntmps5
   go_wp2_with fail
   refine CR.out.mono ?_
   intro e w1 h1
   have hb1 : Below w.heap.size w w1 := by
    obtain ⟨_, _, _, _, _, ⟨_, _, _, _, _, _, _, _, _, h⟩ | ⟨_, _, h⟩⟩ := h1 <;> exact h
   have HB1 := Hi hb1
   have RR1 := Hi (RR.out w1 hb1)
   have hsh : ∃ B k f q, e = .returned (.tuple #[.slice B k f, .bool q]) := by
    obtain ⟨_, _, _, _, _, ⟨_, _, _, _, _, _, _, h, _, _⟩ | ⟨_, h, _⟩⟩ := h1
    · exact ⟨_, _, _, _, h⟩
    · exact ⟨_, _, _, _, h⟩
   obtain ⟨B, k, f, q, rfl⟩ := hsh
   have H1 := Hi h1
   clear h1 hb1 CR RR
   go_wp2_with fail
   refine RR1.out.mono ?_
   intro e w2 h2
   obtain ⟨q', xs, ys, A3, B3, c3, d3, hmap, he1, hx, ⟨C, k4, f4, he2, hq⟩, hy, bx, by_, hxl, _, hb2⟩ := RB.out w w1 w1 w2 _ e H1.out h2
   have HB2 := Hi (YA HB1.out hb2)
   have HX := Hi (hx.below hb2)
   have HY := Hi hy
   have HBX := Hi bx
   have HBY := Hi by_
   have HMAP := Hi hmap
   obtain ⟨rfl, rfl, rfl, rfl⟩ : B = A3 ∧ k = xs.length ∧ f = c3 ∧ q = q' := by
    injection he1 with he1
    injection he1 with he1
    have e0 := congrArg (fun a => a[0]?) he1
    have e1 := congrArg (fun a => a[1]?) he1
    simp at e0 e1
    exact ⟨e0.1, e0.2.1, e0.2.2, e1⟩
   subst he2
   have hly : ys.length = xs.length := by
    have h := congrArg List.length hmap
    rw [List.length_map, List.length_map] at h
    exact h.symm
   obtain ⟨m, hm⟩ : ∃ m, xs.length = m := ⟨_, rfl⟩
   rw [hm] at hly hxl ⊢
   have HM := Hi hm
   have HLY := Hi hly
   have SA := Hi (fun W (hW : Below w2.heap.size w2 W) => rsameXs_any xs ys B B3 f d3 m m HM.out HLY.out (by omega) (by omega) HBX.out HBY.out W (HX.out.below hW) (HY.out.below hW))
   rw [sameXs_map HMAP.out] at SA
   clear h2 hmap he1 hx hy bx by_ hb2 H1 RR1 RB hm HX HY HB1
   cases q with
   | true =>
     obtain ⟨rfl, rfl, rfl⟩ : B3 = C ∧ m = k4 ∧ d3 = f4 := by
      rcases hq with ⟨_, h1, h2, h3⟩ | ⟨h, _⟩
      · exact ⟨h1, by rw [← h2]; exact HLY.out.symm, h3⟩
      · cases h
     clear hq
     go_wp2_with fail
     refine (AL.out _ HB2.out).mono ?_
     rintro e w3 ⟨rfl, hb3⟩
     have HB3 := Hi (YA HB2.out hb3)
     have SA3 := Hi (SA.out w3 hb3)
     clear hb3 SA
     go_wp2_with fail
     refine SA3.out.mono ?_
     rintro e w4 ⟨rfl, hb4⟩
     go_wp2_with fail
     go_ret
     exact ⟨rfl, YA HB3.out hb4⟩
   | false =>
     obtain ⟨rfl, rfl, rfl⟩ : B3 = none ∧ m = 0 ∧ d3 = 0 := by
      rcases hq with ⟨h, _⟩ | ⟨_, h1, h2, h3⟩
      · cases h
      · exact ⟨h1, by rw [← HLY.out, h2]; rfl, h3⟩
     clear hq
     go_wp2_with fail
     refine (AL.out _ HB2.out).mono ?_
     rintro e w3 ⟨rfl, hb3⟩
     have HB3 := Hi (YA HB2.out hb3)
     have SA3 := Hi (SA.out w3 hb3)
     clear hb3 SA
     go_wp2_with fail
     refine SA3.out.mono ?_
     rintro e w4 ⟨rfl, hb4⟩
     go_wp2_with fail
     go_ret
     exact ⟨rfl, YA HB3.out hb4⟩
end Go.Proofs.YtpgfnlhfciacoaaGreatDoor
