/- A mailbox's queue of a subscriber; Flush. -/
import Derived.Test.YthdbbappojkmoaaGreatHu
namespace Go.Proofs.YthdbbappojkmoaaGreat
open Go.RowKit Go.Maps

section
variable {g : Nat} {S : Nat → Prop} {st : StP} {w : World}
set_option maxRecDepth 100000 in
set_option maxHeartbeats 2000000 in
theorem queue_any {gt gc gi mb : Nat} {T : Int} {L : List MI} {U : List Nat} {S1 S2 S3 : Nat → Prop} {n c : Nat} {gq : Int → Nat} {Sq : Int → Nat → Prop} (id : Int) (hi : I64 id) (hX : SX g gt gc gi mb T L U S1 S2 S3 st w) (hQ : QX mb n c gq Sq st.sub w) :
    Calls Tryz.prog 30 #[.pointer (some ⟨g, 0, none⟩), .int .i64 id] w fun e w' => e = .returned (.pointer ((st.sub id).map fun _ => ⟨gq id, 0, none⟩)) ∧ w = w' := by
  have c3 := hX.cells.2.2.2.2
  have hz : (zeroValue 73).run Tryz.prog w = .ok (.pointer none) w := by kernel_rfl
  have hl := hQ.mp.look1 (t := 70) Tryz.underlying70 hz hi
  have hv : (qG gq st.sub id).getD (.pointer none) = .pointer ((st.sub id).map fun _ => ⟨gq id, 0, none⟩) := by
    unfold qG
    cases st.sub id with
    | none => rfl
    | some q => rfl
  rw [hv] at hl
  clear hv hz hX hQ hi
  go_enter Tryz.func30, Tryz.ntmps30
  go_wp2_with fail
  go_ret
  exact ⟨rfl, rfl⟩
set_option maxRecDepth 100000 in
set_option maxHeartbeats 2000000 in
theorem sflush_any (id : Int) (hi : -9223372036854775808 ≤ id ∧ id ≤ 9223372036854775807) (gone : Bool) (hq : smallP st 50000) (h : ST g st S w) :
    Calls Tryz.prog 13 #[.pointer (some ⟨g, 0, none⟩), .int .i64 id, .bool gone] w fun e w' => ∃ (S' : Nat → Prop) (A : Option Addr) (c : Nat), e = .returned (.slice A (sqE (toldE gone (evsP st id))).length c) ∧ w'.ownsRow 0 44 3 (.slice A (sqE (toldE gone (evsP st id))).length c) (sqE (toldE gone (evsP st id))).length (flatL encEv (sqE (toldE gone (evsP st id)))) ∧
      (∀ a, A = some a → ¬ S' a.block ∧ (S a.block ∨ w.heap.size ≤ a.block)) ∧ ST g (flushP st id gone) S' w' ∧ MoreQ S S' w ∧ KeptO S w w' := by
  obtain ⟨gt, gc, gi, mb, T, L, S1, S2, S3, hX, hG, hE⟩ := h
  obtain ⟨n, c, gq, Sq, hQ, hE3⟩ := hX.qs
  have QU := Lib.hid (queue_any (gq := gq) id hi hX hQ)
  cases hs : st.sub id with
  | none =>
    have h1 : evsP st id = [] := by unfold evsP; rw [hs]; rfl
    have h2 : flushP st id gone = st := by
      unfold flushP
      have : (fun i => if i = id then (st.sub i).map (restE gone) else st.sub i) = st.sub := by
        funext i
        by_cases e : i = id
        · rw [if_pos e, e, hs]; rfl
        · rw [if_neg e]
      rw [this]
    rw [hs] at QU
    rw [h1, h2]
    have FL := Lib.hid (fun W => qflush_nil0 gone W)
    have HX := Lib.hid hX
    have HG := Lib.hid hG
    have HE := Lib.hid hE
    have h3 : sqE (toldE gone ([] : List EvI)) = [] := by cases gone <;> rfl
    rw [h3]
    clear hX hG hQ hE hE3 hs h1 h2 h3 hq hi
    go_enter Tryz.func13, Tryz.ntmps13
    go_wp2_with fail
    refine QU.out.mono ?_
    rintro e w1 ⟨rfl, rfl⟩
    clear QU
    go_wp2_with fail
    refine (FL.out _).mono ?_
    rintro e w1 ⟨rfl, hb⟩
    have HB := Lib.hid hb
    clear FL hb
    go_wp2_with fail
    go_ret
    exact ⟨S, none, 0, rfl, World.ownsRow_nil _ _ _ _, (fun a h => by cases h), ⟨gt, gc, gi, mb, T, L, S1, S2, S3, HX.out.below HB.out, HG.out, HE.out⟩, fun k e => .inl e, KeptO.of_below HB.out⟩
  | some q =>
    have h1 : evsP st id = q := by unfold evsP; rw [hs]; rfl
    have h2 : flushP st id gone = { st with sub := updI st.sub id (some (restE gone q)) } := by
      unfold flushP
      have : (fun i => if i = id then (st.sub i).map (restE gone) else st.sub i) = updI st.sub id (some (restE gone q)) := by
        funext i
        unfold updI
        by_cases e : i = id
        · rw [if_pos e, if_pos e, e, hs]; rfl
        · rw [if_neg e, if_neg e]
      rw [this]
    rw [hs] at QU
    rw [h1, h2]
    have FL := Lib.hid (qflush_any gone (by have := hq id q hs; omega) (hQ.qt id q hs))
    have HX := Lib.hid hX
    have HG := Lib.hid hG
    have HE := Lib.hid hE
    have HQ := Lib.hid hQ
    have HE3 := Lib.hid hE3
    have HS := Lib.hid hs
    have QU := Lib.hid (show Calls Tryz.prog 30 #[.pointer (some ⟨g, 0, none⟩), .int .i64 id] w fun e w' => e = .returned (.pointer (some ⟨gq id, 0, none⟩)) ∧ w = w' from QU.out)
    clear hX hG hQ hE hE3 hs h1 h2 hq
    generalize sqE (toldE gone q) = l at *
    go_enter Tryz.func13, Tryz.ntmps13
    go_wp2_with fail
    refine QU.out.mono ?_
    rintro e w1 ⟨rfl, rfl⟩
    clear QU
    go_wp2_with fail
    refine FL.out.mono ?_
    rintro e w1 ⟨T', A, c2, rfl, h1, h2, h3, h4, h5⟩
    obtain ⟨a1, a2, a3⟩ := HQ.out.set HS.out h3 h4 h5
    obtain ⟨k1, k2, k3⟩ := HX.out.que (S3' := QS mb (updI Sq id T')) ⟨n, c, gq, _, a1, fun _ => Iff.rfl⟩ (fun k e => (a2 k e).imp (HE3.out k).2 fun e => e) (a3.mono fun k e => (HE3.out k).2 e)
    have H1 := Lib.hid h1
    have H2 := Lib.hid h2
    have K1 := Lib.hid k1
    have K2 := Lib.hid k2
    have K3 := Lib.hid k3
    clear FL h1 h2 h3 h4 h5 a1 a2 a3 k1 k2 k3
    go_wp2_with fail
    go_ret
    refine ⟨SS g gc S1 S2 (QS mb (updI Sq id T')), A, c2, rfl, H1.out, fun a ha => ⟨fun e => ?_, ?_⟩, ⟨gt, gc, gi, mb, T, L, S1, S2, _, K1.out, ⟨HG.out.ms, HG.out.asc, HG.out.lt, HG.out.cap, HG.out.len, HG.out.nx, HG.out.tk, fun i e => ?_⟩, fun _ => Iff.rfl⟩, fun k e => (K2.out k e).imp (HE.out k).2 fun e => e, K3.out.mono fun k e => (HE.out k).2 e⟩
    · obtain ⟨f1, f2⟩ := H2.out a ha
      have old : ∀ k, SS g gc S1 S2 S3 k → k < w.heap.size := HX.out.lt
      have hold : ∀ i, Sq i a.block → i = id ∨ ¬ Sq id a.block := fun i e2 => by
        by_cases e3 : i = id
        · exact .inl e3
        · exact .inr fun e4 => HQ.out.dj i id e3 _ e2 e4
      have key : ¬ SS g gc S1 S2 S3 a.block ∨ Sq id a.block := by
        rcases f2 with f2 | f2
        · exact .inr f2
        · exact .inl fun e2 => by have := old _ e2; omega
      rcases e with e | e | e | e | e
      · rcases key with k | k
        · exact k (.inl e)
        · exact (HX.out.d3 a.block ((HE3.out _).2 (.inr ⟨id, k⟩))).1 e
      · rcases key with k | k
        · exact k (.inr (.inl e))
        · exact (HX.out.d3 a.block ((HE3.out _).2 (.inr ⟨id, k⟩))).2 e
      · rcases key with k | k
        · exact k (.inr (.inr (.inl e)))
        · exact (HX.out.d1 a.block e).2.2.2 ((HE3.out _).2 (.inr ⟨id, k⟩))
      · rcases key with k | k
        · exact k (.inr (.inr (.inr (.inl e))))
        · exact (HX.out.d2 a.block e).2.2 ((HE3.out _).2 (.inr ⟨id, k⟩))
      · rcases e with e | ⟨i, e⟩
        · rcases key with k | k
          · exact k (.inr (.inr (.inr (.inr ((HE3.out _).2 (.inl e))))))
          · exact HQ.out.mb id _ k e
        · by_cases e3 : i = id
          · subst e3
            rw [updI_same] at e
            exact f1 e
          · rw [updI_other _ _ e3] at e
            rcases key with k | k
            · exact k (.inr (.inr (.inr (.inr ((HE3.out _).2 (.inr ⟨i, e⟩))))))
            · exact HQ.out.dj i id e3 _ e k
    · exact (H2.out a ha).2.imp (fun e => (HE.out _).2 (.inr (.inr (.inr (.inr ((HE3.out _).2 (.inr ⟨id, e⟩))))))) fun e => e
    · unfold updI at e
      by_cases e2 : i = id
      · rw [e2]; exact HG.out.sb id (by rw [HS.out]; rfl)
      · simp only [if_neg e2] at e
        exact HG.out.sb i e
end
end Go.Proofs.YthdbbappojkmoaaGreat

namespace Go.Proofs.YthdbbappojkmoaaGreat
open Go.RowKit Go.Maps

set_option maxRecDepth 100000 in
set_option maxHeartbeats 2000000 in
theorem snew_any (n cap nx : Nat) (hn : 1 ≤ n ∧ n ≤ 16) (hc : cap ≤ 4096) (hx : nx ≤ 4294967295) (w : World) : Calls Tryz.prog 8 #[.int .i64 (n : Int), .int .i64 (cap : Int), .int .u32 (nx : Int)] w fun e w' => ∃ g S, e = .returned (.pointer (some ⟨g, 0, none⟩)) ∧ ST g (newP n cap nx) S w' ∧ (∀ k, S k → w.heap.size ≤ k) ∧ Below w.heap.size w w' := by
  have hmm := @run_makeMap Tryz.prog
  have T1 := Lib.hid (tnew_any n hn w)
  have U1 := Lib.hid (fun W => unew_any (nx : Int) ((max nx 1 : Nat) : Int) (by omega) (by omega) (by omega) W)
  have I1 := Lib.hid (fun W => ixtnew_any W)
  have hc1 : decide ((cap : Int) < 0) = false := by simp
  have hc2 : ¬ (4096 : Int) < (cap : Int) := by omega
  have HC := Lib.hid hc
  have HX := Lib.hid hx
  clear hc hx hn
  go_enter Tryz.func8, Tryz.ntmps8
  go_wp2_with fail
  refine T1.out.mono ?_
  rintro e w1 ⟨gt, S1, rfl, t1, t2, t3⟩
  have HT1 := Lib.hid t1
  have HT2 := Lib.hid t2
  have HT3 := Lib.hid t3
  clear T1 t1 t2 t3
  go_wp2_with fail
  refine (U1.out _).mono ?_
  rintro e w2 ⟨rfl, u1, u2⟩
  have HU1 := Lib.hid u1.out
  have HU2 := Lib.hid u2
  clear U1 u1 u2
  go_wp2_with fail
  refine (I1.out _).mono ?_
  rintro e w3 ⟨gi, S2, rfl, i1, i2, i3⟩
  have HI1 := Lib.hid i1
  have HI2 := Lib.hid i2
  have HI3 := Lib.hid i3
  clear I1 i1 i2 i3
  have b3 := below_al w3 (.map #[] 0)
  have z3 : (w3.alloc (.map #[] 0)).heap.size = w3.heap.size + 1 := by simp
  have b4 := below_al (w3.alloc (.map #[] 0)) (.cells #[.int .i64 (cap : Int), .pointer (some ⟨w1.heap.size, 0, none⟩), .pointer (some ⟨gi, 0, none⟩), .pointer (some ⟨gt, 0, none⟩), .map (some w3.heap.size)] 72)
  have n4 := heap_alloc_new (w3.alloc (.map #[] 0)) (.cells #[.int .i64 (cap : Int), .pointer (some ⟨w1.heap.size, 0, none⟩), .pointer (some ⟨gi, 0, none⟩), .pointer (some ⟨gt, 0, none⟩), .map (some w3.heap.size)] 72)
  have hq := QX.made w3
  have H := Lib.hid (And.intro b3 (And.intro b4 (And.intro n4 hq)))
  clear b3 b4 n4 hq
  go_wp2_with fail
  go_ret
  obtain ⟨b3, b4, n4, hq⟩ := H.out
  rw [z3] at n4
  have hb2 := HT3.out
  have hs1 := hb2.size
  have hs2 := HU2.out.size
  have hs3 := HI3.out.size
  have hct := HU1.out.lt
  have hb13 := below_next b3 b4
  have hb23 := below_next HI3.out hb13
  have hb12 := below_next HU2.out hb23
  have hb := below_next hb2 hb12
  refine ⟨_, SS (w3.heap.size + 1) w1.heap.size S1 S2 (QS w3.heap.size fun _ _ => False), rfl, ⟨gt, w1.heap.size, gi, w3.heap.size, 0, [], S1, S2, _, ⟨n4, HT1.out.kept (S' := fun _ => False) (KeptO.of_below hb12) fun _ _ => id, HU1.out.grow hb23, (IxT.objK _ _).kept _ _ _ _ HI1.out (KeptO.of_below (S := fun _ => False) hb13) fun _ _ => id, ⟨_, _, _, _, hq.below b4, fun _ => Iff.rfl⟩, fun k e => ?_, fun k e => ?_, ?_, by omega⟩, ⟨rfl, .nil, (fun m hm => by cases hm), HC.out, Nat.zero_le _, ?_, ?_, fun i e => by cases e⟩, fun _ => Iff.rfl⟩, ?_, hb⟩
  · have := HT1.out.lt k e
    refine ⟨by omega, by omega, fun e2 => by have := HI2.out k e2; omega, ?_⟩
    rintro (e2 | ⟨i, e2⟩)
    · omega
    · exact e2
  · have h1 := HI2.out k e
    have h2 := (IxT.objK _ _).lt _ _ HI1.out k e
    refine ⟨by omega, by omega, ?_⟩
    rintro (e2 | ⟨i, e2⟩)
    · omega
    · exact e2
  · rintro k (e2 | ⟨i, e2⟩)
    · exact ⟨by omega, by omega⟩
    · exact e2.elim
  · have := HX.out
    show 1 ≤ max nx 1 ∧ max nx 1 ≤ 4294967295
    omega
  · show (0 : Int) ≤ 0 ∧ (0 : Int) < ((max nx 1 : Nat) : Int)
    omega
  · rintro k (e | e | e | e | e | ⟨i, e⟩)
    · omega
    · omega
    · exact HT2.out k e
    · have := HI2.out k e
      omega
    · omega
    · exact e.elim
end Go.Proofs.YthdbbappojkmoaaGreat

namespace Go.Proofs.YthdbbappojkmoaaGreat
open Go.RowKit Go.Maps

section
variable {g : Nat} {S : Nat → Prop} {st : StP} {w : World}
set_option maxRecDepth 100000 in
theorem suids_any (h : ST g st S w) : Calls Tryz.prog 17 #[.pointer (some ⟨g, 0, none⟩)] w fun e w' => ∃ (S' : Nat → Prop) (A : Option Addr) (c : Nat), e = .returned (.slice A (uidsP st).length c) ∧ w'.ownsRow w.heap.size 27 1 (.slice A (uidsP st).length c) (uidsP st).length (flatL encU (uidsP st)) ∧ (∀ a, A = some a → ¬ S' a.block) ∧ ST g st S' w' ∧ MoreQ S S' w ∧ KeptO S w w' := by
  obtain ⟨gt, gc, gi, mb, T, L, S1, S2, S3, hX, hG, hS⟩ := h
  have HX := Lib.hid hX
  have HG := Lib.hid hG
  obtain ⟨c0, c1, c2, c3, c4⟩ := hX.cells
  have C := Lib.hid (ixtall_any hX.ix)
  clear hX hG c0 c1 c3 c4
  go_enter Tryz.func17, Tryz.ntmps17
  go_wp2_with fail
  refine C.out.mono ?_
  rintro e w1 ⟨v, rfl, h3, h5⟩
  obtain ⟨A, c, rfl⟩ := own_any h3
  have H3 := Lib.hid h3
  have H5 := Lib.hid h5
  clear C h3 h5
  go_wp2_with fail
  go_ret
  exact ⟨S, A, c, rfl, H3.out, own_out H3.out fun k e => HX.out.lt k ((hS k).1 e), ⟨gt, gc, gi, mb, T, L, S1, S2, S3, HX.out.below H5.out, HG.out, hS⟩, fun k e => .inl e, KeptO.of_below H5.out⟩
set_option maxRecDepth 100000 in
theorem snext_any (h : ST g st S w) : Calls Tryz.prog 23 #[.pointer (some ⟨g, 0, none⟩)] w fun e w' => ∃ S', e = .returned (.int .u32 (st.next : Int)) ∧ ST g st S' w' ∧ MoreQ S S' w ∧ KeptO S w w' := by
  obtain ⟨gt, gc, gi, mb, T, L, S1, S2, S3, hX, hG, hS⟩ := h
  have HX := Lib.hid hX
  have HG := Lib.hid hG
  obtain ⟨c0, c1, c2, c3, c4⟩ := hX.cells
  have C := Lib.hid (unext_any gc _ _ _ w hX.ct)
  clear hX hG c0 c2 c3 c4
  go_enter Tryz.func23, Tryz.ntmps23
  go_wp2_with fail
  refine C.out.mono ?_
  rintro e w1 ⟨rfl, rfl⟩
  clear C
  go_wp2_with fail
  go_ret
  exact ⟨S, rfl, ⟨gt, gc, gi, mb, T, L, S1, S2, S3, HX.out, HG.out, hS⟩, fun k e => .inl e, KeptO.refl _ _⟩
end
end Go.Proofs.YthdbbappojkmoaaGreat

namespace Go.Proofs.YthdbbappojkmoaaGreat
open Go.RowKit Go.Maps

theorem QX.tight {mb n c : Nat} {gq : Int → Nat} {Sq : Int → Nat → Prop} {sub : Int → Option (List EvI)} {w : World} (h : QX mb n c gq Sq sub w) : QX mb c c gq Sq sub w := ⟨h.mp.tight, h.qt, h.em, h.dj, h.mb⟩
section
variable {g : Nat} {S : Nat → Prop} {st : StP} {w : World}
set_option maxRecDepth 100000 in
set_option maxHeartbeats 2000000 in
theorem ssub_ok (id : Int) (hi : -9223372036854775808 ≤ id ∧ id ≤ 9223372036854775807) (he : (subP st id).2 = 0) (hF : fewP st) (h : ST g st S w) :
    Calls Tryz.prog 9 #[.pointer (some ⟨g, 0, none⟩), .int .i64 id] w fun e w' => ∃ (S' : Nat → Prop) (A : Option Addr) (c : Nat), e = .returned (.tuple #[.slice A (uidsP st).length c, .int .i64 0]) ∧ w'.ownsRow w.heap.size 27 1 (.slice A (uidsP st).length c) (uidsP st).length (flatL encU (uidsP st)) ∧ (∀ a, A = some a → ¬ S' a.block) ∧ ST g (subP st id).1 S' w' ∧ MoreQ S S' w ∧ KeptO S w w' := by
  have h0 : ¬ id < 0 := fun e => by unfold subP at he; rw [if_pos e] at he; cases he
  have hs : st.sub id = none := by
    unfold subP at he
    rw [if_neg h0] at he
    by_cases e : (st.sub id).isSome = true
    · rw [if_pos e] at he; cases he
    · simpa using e
  have hp : (subP st id).1 = { st with sub := updI st.sub id (some []) } := by
    unfold subP
    rw [if_neg h0, if_neg (by rw [hs]; simp)]
    rfl
  rw [hp]
  obtain ⟨gt, gc, gi, mb, T, L, S1, S2, S3, hX, hG, hE⟩ := h
  obtain ⟨n, c, gq, Sq, hQ0, hE3⟩ := hX.qs
  have hQ := hQ0.tight
  obtain ⟨K, hK1, hK2⟩ := hF
  have hcK := hQ.few fun i _ e => hK2 i e
  have c3 := hX.cells.2.2.2.2
  have QU := queue_any (gq := gq) id hi hX hQ
  rw [hs] at QU
  have QU := Lib.hid (show Calls Tryz.prog 30 #[.pointer (some ⟨g, 0, none⟩), .int .i64 id] w fun e w' => e = .returned (.pointer none) ∧ w = w' from QU)
  have HNEW := Lib.hid (fun W (hb : Below w.heap.size w W) => (show Calls Tryz.prog 31 #[] W fun e w' => ∃ ge, e = .returned (.pointer (some ⟨ge, 0, none⟩)) ∧ w'.cell? ⟨g, 4, none⟩ = some (.map (some mb)) ∧
      ∃ w2, (Instr.mapUpdate 70 (.map (some mb)) (.int .i64 id) (.pointer (some ⟨ge, 0, none⟩))).run Tryz.prog w' = .ok () w2 ∧ Hid (∃ S3', SX g gt gc gi mb T L (uidsP st) S1 S2 S3' { st with sub := updI st.sub id (some []) } w2 ∧ MoreQ (SS g gc S1 S2 S3) (SS g gc S1 S2 S3') w ∧ KeptO (SS g gc S1 S2 S3) w w2) by
    refine (qnew_any W).mono ?_
    rintro e w' ⟨ge, T', rfl, t1, t2, t3⟩
    have hb2 := below_next hb t3
    have hX2 := hX.below hb2
    have hQ2 := hQ.below hb2
    have hsz := hb.size
    obtain ⟨w2, r1, r2, r3⟩ := hQ2.add (u := id) (g := ge) (q := []) (t := 70) hi hs t1 (fun i k e e2 => by have := hQ.qlt i k e; have := t2 k e2; omega) (fun e => by have := hQ.mp.lt; have := t2 mb e; omega) Tryz.underlying70 (by unfold maxLen; omega)
    have hk2 : KeptO S3 w' w2 := KeptO.of_grown r3 fun j e => by cases e; exact (hE3 _).2 (.inl rfl)
    have hm2 : MoreQ S3 (QS mb (updI Sq id T')) w := by
      rintro k (rfl | ⟨i, e⟩)
      · exact .inl ((hE3 _).2 (.inl rfl))
      · by_cases e3 : i = id
        · subst e3
          rw [updI_same] at e
          have := t2 k e
          exact .inr (by omega)
        · rw [updI_other _ _ e3] at e
          exact .inl ((hE3 _).2 (.inr ⟨i, e⟩))
    have hm3 : MoreQ (fun k => S3 k ∨ w.heap.size ≤ k) (QS mb (updI Sq id T')) w := fun k e => .inl (hm2 k e)
    refine ⟨ge, rfl, hX2.cells.2.2.2.2, w2, r1, Lib.hid ⟨QS mb (updI Sq id T'), ?_, ?_, ?_⟩⟩
    · exact ⟨hk2.heap hX2.box fun e => (hX.d3 g e).1 rfl, hX2.tb.kept hk2 fun j e e2 => (hX.d1 j e).2.2.2 e2, hX2.ct.keptO hk2 fun e => (hX.d3 gc e).2 rfl, (IxT.objK _ _).kept _ _ _ _ hX2.ix hk2 fun j e e2 => (hX.d2 j e).2.2 e2, ⟨_, _, _, _, r2, fun _ => Iff.rfl⟩,
        fun j e => ⟨(hX.d1 j e).1, (hX.d1 j e).2.1, (hX.d1 j e).2.2.1, fun e2 => (hm2 j e2).elim (hX.d1 j e).2.2.2 fun e3 => by have := hX.tb.lt j e; omega⟩,
        fun j e => ⟨(hX.d2 j e).1, (hX.d2 j e).2.1, fun e2 => (hm2 j e2).elim (hX.d2 j e).2.2 fun e3 => by have := (IxT.objK _ _).lt _ _ hX.ix j e; omega⟩,
        fun j e => (hm2 j e).elim (hX.d3 j) fun e3 => ⟨fun e4 => by have := (Array.getElem?_eq_some_iff.1 hX.box).1; omega, fun e4 => by have := hX.ct.lt; omega⟩, hX.dg⟩
    · rintro j (rfl | rfl | e | e | e)
      · exact .inl (.inl rfl)
      · exact .inl (.inr (.inl rfl))
      · exact .inl (.inr (.inr (.inl e)))
      · exact .inl (.inr (.inr (.inr (.inl e))))
      · exact (hm2 j e).imp (fun e => .inr (.inr (.inr (.inr e)))) fun e => e
    · exact (KeptO.of_below (S := SS g gc S1 S2 S3) hb2).trans (hk2.mono fun j e => .inr (.inr (.inr (.inr e)))) fun j e => .inl e))
  have HG := Lib.hid hG
  have HE := Lib.hid hE
  have HI := Lib.hid hi
  have H0 := Lib.hid h0
  have h0d : decide (id < 0) = false := by simpa using h0
  clear hX hQ0 hQ hK1 hK2 hcK hG hE hE3 he hs hp
  go_enter Tryz.func9, Tryz.ntmps9
  go_wp2_with fail
  refine QU.out.mono ?_
  rintro e w0 ⟨rfl, rfl⟩
  clear QU
  go_wp2_with fail
  go_region_with (go_at_call 31; refine (HNEW.out _ (by repeat (first | assumption | exact Below.refl _ _ | refine belowDrawN ?_ _ | refine belowDraw ?_))).mono ?_; rintro e' w1 ⟨ge, rfl, k3, w2, kr, kX⟩)
  all_goals
    obtain ⟨S3', x1, x2, x3⟩ := kX.out
    have hst : ST g { st with sub := updI st.sub id (some []) } (SS g gc S1 S2 S3') w2 := ⟨gt, gc, gi, mb, T, L, S1, S2, S3', x1, ⟨HG.out.ms, HG.out.asc, HG.out.lt, HG.out.cap, HG.out.len, HG.out.nx, HG.out.tk, fun i e => by
      unfold updI at e
      by_cases e2 : i = id
      · rw [e2]; exact ⟨HI.out, H0.out⟩
      · simp only [if_neg e2] at e
        exact HG.out.sb i e⟩, fun _ => Iff.rfl⟩
    have UI := Lib.hid (suids_any hst)
    have X2 := Lib.hid x2
    have X3 := Lib.hid x3
    have huid : uidsP { st with sub := updI st.sub id (some []) } = uidsP st := rfl
    rw [huid] at UI
    clear HNEW hst x1 x2 x3 kX huid
    go_wp2_with fail
    refine UI.out.mono ?_
    rintro e w3 ⟨S', A, cc, rfl, u1, u2, u3, u4, u5⟩
    have U1 := Lib.hid u1
    have U2 := Lib.hid u2
    have U3 := Lib.hid u3
    have U4 := Lib.hid u4
    have U5 := Lib.hid u5
    clear UI u1 u2 u3 u4 u5
    go_wp2_with fail
    go_ret2
    have hs2 := X3.out.size
    refine ⟨S', A, cc, rfl, own_mono U1.out hs2, U2.out, U3.out, fun k e => ?_, (X3.out.mono fun k e => (HE.out k).2 e).trans U5.out fun k e => ?_⟩
    · rcases U4.out k e with e | e
      · exact (X2.out k e).imp (HE.out k).2 fun e => e
      · exact .inr (by omega)
    · exact (X2.out k e).imp (HE.out k).2 fun e => e
end
end Go.Proofs.YthdbbappojkmoaaGreat
