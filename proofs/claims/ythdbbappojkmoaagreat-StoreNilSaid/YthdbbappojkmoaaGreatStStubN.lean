/- A mailbox's Get, and its methods over a nil mailbox. -/
import Derived.Test.YthdbbappojkmoaaGreatHx
import Derived.Test.YthdbbappojkmoaaGreatEvLen
namespace Go.Proofs.YthdbbappojkmoaaGreat
open Go.RowKit Go.Maps

theorem own_out2 {g gt gc gi mb : Nat} {T : Int} {L : List MI} {U : List Nat} {S1 S1a S2 S3 : Nat → Prop} {st : StP} {w w' : World} {n m c sz : Nat} {ty : TypeId} {A : Option Addr} {xs : List Value} (h : w'.ownsRow w.heap.size ty sz (.slice A m c) n xs) (ho : Out S1a A) (hX : SX g gt gc gi mb T L U S1 S2 S3 st w) : ∀ a, A = some a → ¬ SS g gc S1a S2 S3 a.block := by
  intro a ha e
  have hge := own_from h a ha
  rcases e with e | e | e | e | e
  · have := (Array.getElem?_eq_some_iff.1 hX.box).1; omega
  · have := hX.ct.lt; omega
  · exact ho a ha e
  · have := (IxT.objK _ _).lt _ _ hX.ix _ e; omega
  · have := (QusT.objK _ _).lt _ _ hX.qs _ e; omega
section
variable {g : Nat} {S : Nat → Prop} {st : StP} {w : World}
set_option maxRecDepth 100000 in
set_option maxHeartbeats 2000000 in
theorem sget_any (u : Nat) (hu : u ≤ 4294967295) (h : ST g st S w) : Calls Tryz.prog 19 #[.pointer (some ⟨g, 0, none⟩), .int .u32 (u : Int)] w fun e w' => ∃ (S' : Nat → Prop) (A : Option Addr) (c : Nat), e = .returned (.tuple #[.agg #[.int .u32 (((fndP st.ms u).getD ⟨0, 0, []⟩).u : Nat), .int .u8 (((fndP st.ms u).getD ⟨0, 0, []⟩).f : Nat), .slice A ((fndP st.ms u).getD ⟨0, 0, []⟩).b.length c], .bool (fndP st.ms u).isSome]) ∧
      w'.ownsRow w.heap.size 5 1 (.slice A ((fndP st.ms u).getD ⟨0, 0, []⟩).b.length c) ((fndP st.ms u).getD ⟨0, 0, []⟩).b.length (flatL encB ((fndP st.ms u).getD ⟨0, 0, []⟩).b) ∧ (∀ a, A = some a → ¬ S' a.block) ∧ ST g st S' w' ∧ MoreQ S S' w ∧ KeptO S w w' := by
  obtain ⟨gt, gc, gi, mb, T, L, S1, S2, S3, hX0, hG, hE⟩ := h
  have hll := hG.llen
  have hlen := hG.len
  have hcap := hG.cap
  have hfind := hG.find u
  have hb := below_al w (.cells #[.int .u32 0, .int .u8 0, .slice none 0 0] 52)
  have hm := M3.new (W := w) (m := msZ) rfl
  have hX := hX0.below hb
  have HX0 := Lib.hid hX0
  have HX := Lib.hid hX
  have HG := Lib.hid hG
  have HE := Lib.hid hE
  have HB := Lib.hid hb
  have HM := Lib.hid hm
  obtain ⟨c0, c1, c2, c3, c4⟩ := hX.cells
  have GT := Lib.hid (tget_any u hu hX.tb (by omega))
  have HS := Lib.hid (show (getM L u).isSome = (fndP st.ms u).isSome by
    have := congrArg Option.isSome hfind
    simpa using this)
  have HK := Lib.hid (show ∀ y : MI, sameM y ((getM L u).getD ⟨0, 0, none, 0, []⟩) = true → y.u = ((fndP st.ms u).getD ⟨0, 0, []⟩).u ∧ y.f = ((fndP st.ms u).getD ⟨0, 0, []⟩).f ∧ y.b = ((fndP st.ms u).getD ⟨0, 0, []⟩).b from fun y hy => by
    have h1 := sameM_iff.1 hy
    cases hg : getM L u with
    | none =>
      rw [hg] at hfind h1
      cases hx : fndP st.ms u with
      | none => exact h1
      | some m => rw [hx] at hfind; cases hfind
    | some z =>
      rw [hg] at hfind h1
      cases hx : fndP st.ms u with
      | none => rw [hx] at hfind; cases hfind
      | some m =>
        rw [hx] at hfind
        have hk : keyM z = keyP m := Option.some.inj hfind
        unfold keyM keyP at hk
        injection hk with k1 k2
        injection k2 with k2 k3
        exact ⟨h1.1.trans k1, h1.2.1.trans k2, h1.2.2.trans k3⟩)
  rw [HS.out] at GT
  generalize (fndP st.ms u).isSome = sm at *
  generalize (fndP st.ms u).getD ⟨0, 0, []⟩ = mm at *
  clear hX0 hX hG hE hll hlen hcap hfind c0 c1 c2 c4 HS hb hm
  go_enter Tryz.func19, Tryz.ntmps19
  go_wp2_with fail
  refine GT.out.mono ?_
  rintro e w1 ⟨y, S1a, rfl, hsm, ho, hA, t1, t2, t3⟩
  obtain ⟨e1, e2, e3⟩ := HK.out y hsm
  have H1 := Lib.hid e1
  have H2 := Lib.hid e2
  have H3 := Lib.hid e3
  obtain ⟨y1, y2, y3⟩ := HX.out.tab t1 t2.2 t3 st.ms
  have hSw : ∀ k, SS g gc S1 S2 S3 k → k < w.heap.size := HX0.out.lt
  have m1 : M3 w1 w.heap.size msZ := HM.out.kept y3 fun e => Nat.lt_irrefl _ (hSw _ e)
  obtain ⟨f0, f1, f2⟩ := m1.cells
  have g0 := m1.fz 0
  have g1 := m1.fz 1
  have g2 := m1.fz 2
  have hz : (w.alloc (.cells #[.int .u32 0, .int .u8 0, .slice none 0 0] 52)).heap.size = w.heap.size + 1 := by simp
  have hk3 := st3_kept w1 w.heap.size y
  have hnb : ∀ k, SS g gc S1a S2 S3 k → k ≠ w.heap.size := fun k e => by
    rcases y2 k e with e | e
    · have := hSw k e
      omega
    · omega
  have hrow := own_keptO ho hk3 (fun k e => by omega)
  have hS' : ∀ a, y.A = some a → ¬ SS g gc S1a S2 S3 a.block := own_out2 ho hA HX.out
  have HO := Lib.hid (own_mono hrow HB.out.size)
  have HA := Lib.hid hS'
  have Y1 := Lib.hid (y1.kept hk3 hnb)
  have Y2 := Lib.hid (show MoreQ (SS g gc S1 S2 S3) (SS g gc S1a S2 S3) w from fun k e => (y2 k e).imp id fun e => by omega)
  have Y3 := Lib.hid ((KeptO.after_below HB.out y3).trans hk3 fun k e => .inr (by omega))
  have HM2 := Lib.hid (m1.st3 y)
  clear GT hsm ho hA t1 t2 t3 e1 e2 e3 y1 y2 y3 hS' c3 hk3 hnb hrow hSw m1 hz HM HB HX HX0
  unfold st3 at HO Y1 Y3 HM2
  unfold msV
  go_wp2_with fail
  generalize World.setCell _ _ _ = w2 at *
  obtain ⟨d0, d1, d2⟩ := HM2.out.cells
  clear HM2
  refine bodyPost_ret (v := .tuple #[.agg #[.int .u32 (y.u : Int), .int .u8 (y.f : Int), .slice y.A y.b.length y.k], .bool sm]) ?_ rfl ?_
  · simp [results, Tryz.results19, go_sem, d0, d1, d2]
  rw [← H1.out, ← H2.out, ← H3.out]
  exact ⟨SS g gc S1a S2 S3, y.A, y.k, rfl, HO.out, HA.out, ⟨gt, gc, gi, mb, T, L, S1a, S2, S3, Y1.out, HG.out, fun _ => Iff.rfl⟩, fun k e => (Y2.out k e).imp (HE.out k).2 fun e => e, Y3.out.mono fun k e => (HE.out k).2 e⟩
end
set_option maxRecDepth 100000 in
theorem ssub_nil (id : Int) (w : World) : Calls Tryz.prog 9 #[.pointer none, .int .i64 id] w fun e w' => ∃ A n c, e = .returned (.tuple #[.slice A n c, .int .i64 1]) ∧ Below w.heap.size w w' := by
  go_enter Tryz.func9, Tryz.ntmps9
  go_wp2_with fail
  go_ret2
  exact ⟨_, _, _, rfl, Below.refl _ _⟩
set_option maxRecDepth 100000 in
theorem sapp_nil (f : Nat) (w : World) : Calls Tryz.prog 10 #[.pointer none, .int .u8 (f : Int), .slice none 0 0] w fun e w' => e = .returned (.tuple #[.int .u32 0, .int .i64 1]) ∧ Below w.heap.size w w' := by
  go_enter Tryz.func10, Tryz.ntmps10
  go_wp2_with fail
  go_ret2
  exact ⟨rfl, Below.refl _ _⟩
set_option maxRecDepth 100000 in
theorem schg_nil (by_ : Int) (u : Nat) (mode : Int) (f : Nat) (w : World) : Calls Tryz.prog 11 #[.pointer none, .int .i64 by_, .int .u32 (u : Int), .int .i64 mode, .int .u8 (f : Int)] w fun e w' => e = .returned (.tuple #[.int .u8 0, .int .i64 1]) ∧ Below w.heap.size w w' := by
  have HB := Lib.hid (below_next (below_al w (.cells #[.int .i64 by_] 3)) (below_al (w.alloc (.cells #[.int .i64 by_] 3)) (.cells #[.int .u32 (u : Int)] 27)))
  go_enter Tryz.func11, Tryz.ntmps11
  go_wp2_with fail
  go_ret2
  exact ⟨rfl, HB.out⟩
set_option maxRecDepth 100000 in
theorem sget_nil (u : Nat) (w : World) : Calls Tryz.prog 19 #[.pointer none, .int .u32 (u : Int)] w fun e w' => ∃ (u2 f : Int) (A : Option Addr) (n c : Nat), e = .returned (.tuple #[.agg #[.int .u32 u2, .int .u8 f, .slice A n c], .bool false]) ∧ Below w.heap.size w w' := by
  go_enter Tryz.func19, Tryz.ntmps19
  have HB := Lib.hid (below_al w (.cells #[.int .u32 0, .int .u8 0, .slice none 0 0] 52))
  go_wp2_with fail
  refine bodyPost_ret (v := .tuple #[.agg #[.int .u32 0, .int .u8 0, .slice none 0 0], .bool false]) ?_ rfl ?_
  · simp [results, Tryz.results19, go_sem]
  exact ⟨_, _, _, _, _, rfl, HB.out⟩
set_option maxRecDepth 100000 in
theorem queue_nil (id : Int) (w : World) : Calls Tryz.prog 30 #[.pointer none, .int .i64 id] w fun e w' => e = .returned (.pointer none) ∧ w = w' := by
  go_enter Tryz.func30, Tryz.ntmps30
  go_wp2_with fail
  go_ret
  exact ⟨rfl, rfl⟩
set_option maxRecDepth 100000 in
theorem sflush_nil (id : Int) (gone : Bool) (w : World) : Calls Tryz.prog 13 #[.pointer none, .int .i64 id, .bool gone] w fun e w' => ∃ A c, e = .returned (.slice A 0 c) ∧ Below w.heap.size w w' := by
  have QU := Lib.hid (queue_nil id w)
  have FL := Lib.hid (qflush_nil0 gone w)
  go_enter Tryz.func13, Tryz.ntmps13
  go_wp2_with fail
  refine QU.out.mono ?_
  rintro e w1 ⟨rfl, rfl⟩
  clear QU
  go_wp2_with fail
  refine FL.out.mono ?_
  rintro e w1 ⟨rfl, hb⟩
  clear FL
  go_wp2_with fail
  go_ret
  exact ⟨_, _, rfl, hb⟩
set_option maxRecDepth 100000 in
theorem spend_nil (id : Int) (w : World) : Calls Tryz.prog 22 #[.pointer none, .int .i64 id] w fun e w' => e = .returned (.int .i64 0) ∧ Below w.heap.size w w' := by
  have QU := Lib.hid (queue_nil id w)
  have FL := Lib.hid (qlen_nil w)
  go_enter Tryz.func22, Tryz.ntmps22
  go_wp2_with fail
  refine QU.out.mono ?_
  rintro e w1 ⟨rfl, rfl⟩
  clear QU
  go_wp2_with fail
  refine FL.out.mono ?_
  rintro e w1 ⟨rfl, hb⟩
  clear FL
  go_wp2_with fail
  go_ret
  exact ⟨rfl, hb⟩
set_option maxRecDepth 100000 in
theorem sunsub_nil (id : Int) (w : World) : Calls Tryz.prog 21 #[.pointer none, .int .i64 id] w fun e w' => e = .returned (.bool false) ∧ Below w.heap.size w w' := by
  have QU := Lib.hid (queue_nil id w)
  go_enter Tryz.func21, Tryz.ntmps21
  go_wp2_with fail
  refine QU.out.mono ?_
  rintro e w1 ⟨rfl, rfl⟩
  clear QU
  go_wp2_with fail
  go_ret
  exact ⟨rfl, Below.refl _ _⟩
set_option maxRecDepth 100000 in
theorem sexp_nil (w : World) : Calls Tryz.prog 12 #[.pointer none] w fun e w' => ∃ A c, e = .returned (.slice A 0 c) ∧ Below w.heap.size w w' := by
  go_enter Tryz.func12, Tryz.ntmps12
  go_wp2_with fail
  go_ret
  exact ⟨_, _, rfl, Below.refl _ _⟩
set_option maxRecDepth 100000 in
theorem suids_nil (w : World) : Calls Tryz.prog 17 #[.pointer none] w fun e w' => ∃ A c, e = .returned (.slice A 0 c) ∧ Below w.heap.size w w' := by
  go_enter Tryz.func17, Tryz.ntmps17
  go_wp2_with fail
  go_ret
  exact ⟨_, _, rfl, Below.refl _ _⟩
set_option maxRecDepth 100000 in
theorem snext_nil (w : World) : Calls Tryz.prog 23 #[.pointer none] w fun e w' => e = .returned (.int .u32 0) ∧ Below w.heap.size w w' := by
  go_enter Tryz.func23, Tryz.ntmps23
  go_wp2_with fail
  go_ret
  exact ⟨rfl, Below.refl _ _⟩
set_option maxRecDepth 100000 in
theorem svalid_nil (w : World) : Calls Tryz.prog 24 #[.pointer none] w fun e w' => e = .returned (.int .u32 0) ∧ Below w.heap.size w w' := by
  go_enter Tryz.func24, Tryz.ntmps24
  go_wp2_with fail
  go_ret
  exact ⟨rfl, Below.refl _ _⟩
set_option maxRecDepth 100000 in
theorem sstripes_nil (w : World) : Calls Tryz.prog 25 #[.pointer none] w fun e w' => e = .returned (.int .i64 0) ∧ Below w.heap.size w w' := by
  go_enter Tryz.func25, Tryz.ntmps25
  go_wp2_with fail
  go_ret
  exact ⟨rfl, Below.refl _ _⟩
end Go.Proofs.YthdbbappojkmoaaGreat
