/- The table of layer 13: Remove. -/
import Derived.Test.YthdbbappojkmoaaGreatHp
import Derived.Test.YthdbbappojkmoaaGreatHr
namespace Go.Proofs.YthdbbappojkmoaaGreat
open Go.RowKit Go.Maps

set_option maxRecDepth 100000 in
set_option maxHeartbeats 2000000 in
theorem remove1_any (s b bu bm bo c u : Nat) (hu : u ≤ 4294967295) (G : Nat → Option Value) (x : Option MI) (hG : G u = x.map msV) (W : World) (hs : Strp s b 1 W)
    (cu : W.cell? ⟨bu, 0, none⟩ = some (.int .u32 (u : Int))) (cm : M3 W bm msZ) (co : Vb W bo 4 (.bool false)) (h1 : bm ≠ bo) (h2 : bu ≠ bm) (h3 : s ≠ bm) (h4 : s ≠ bo) (h5 : bu ≠ bo) (h6 : b ≠ bm) (h7 : b ≠ bo)
    (hM : MapV W b c G c) :
    Calls Tryz.prog 80 #[.pointer (some ⟨s, 0, none⟩), .pointer (some ⟨bu, 0, none⟩), .pointer (some ⟨bm, 0, none⟩), .pointer (some ⟨bo, 0, none⟩)] W fun e w' => e = .returned (.tuple #[]) ∧ KeptO (fun k => (k = bm ∨ k = bo) ∨ k = b) W w' ∧
      M3 w' bm (x.getD msZ) ∧ Vb w' bo 4 (.bool x.isSome) ∧ ∃ c, MapV w' b c (fun v => if v = u then none else G v) c := by
  have hlk := Lib.hid (fun k => (show MapV (W.drewN k) b c G c from hM).look (t := 88) Tryz.underlying88 (zeroM _) hu)
  have hl0 : (Instr.lookup 88 (.map (some b)) (.int .u32 (u : Int)) true).run Tryz.prog W.drew = .ok (.tuple #[msV (x.getD msZ), .bool x.isSome]) W.drew := by
    have := hlk.out 1
    rw [hG, msV_getD, Option.isSome_map] at this
    exact this
  have c2 := hs.mp
  have e0 := cm.fz 0
  have e1 := cm.fz 1
  have e2 := cm.fz 2
  have co0 := co.cell
  have co1 := co.fz
  obtain ⟨d0, d1, d2⟩ := cm.cells
  clear hlk
  generalize x.getD msZ = y at *
  generalize x.isSome = ok at *
  unfold msV at hl0
  have K1 : KeptO (fun k => k = bm ∨ k = bo) W ((st3 W bm y).setCell ⟨bo, 0, none⟩ (.bool ok)).drew :=
    (((st3_kept W bm y).mono (S' := fun k => k = bm ∨ k = bo) fun k e => .inl e).trans ((KeptO.set _ bo 0 _).mono (S' := fun k => k = bm ∨ k = bo) fun k e => .inr e) fun _ e => .inl e).drew
  have M1 : M3 ((st3 W bm y).setCell ⟨bo, 0, none⟩ (.bool ok)).drew bm y := ((cm.st3 y).kept (KeptO.set _ bo 0 _) h1).draw
  have O1 : Vb ((st3 W bm y).setCell ⟨bo, 0, none⟩ (.bool ok)).drew bo 4 (.bool ok) := ((co.kept (st3_kept W bm y) fun e => h1 e.symm).set _)
  have S1 := hs.kept K1 (fun e => e.elim h3 h4)
  have V1 := hM.at_ (K1.block b hM.lt fun e => e.elim h6 h7)
  have U1 := (World.cell?_of_block (a := ⟨bu, 0, none⟩) (K1.block bu (World.block_lt_of_cell? _ _ cu) fun e => e.elim h2 h5)).trans cu
  unfold st3 at K1 M1 O1 S1 V1 U1
  go_enter Tryz.func80, Tryz.ntmps80
  go_upto_region 0 with (fail)
  go_region
  clear hl0 c2 e0 e1 e2 co0 co1 d0 d1 d2 cu cm co hs hG
  generalize ((((W.setCell ⟨bm, 0, none⟩ (Value.int IntKind.u32 ↑y.u)).setCell ⟨bm, 1, none⟩ (Value.int IntKind.u8 ↑y.f)).setCell ⟨bm, 2, none⟩ (Value.slice y.A y.b.length y.k)).setCell ⟨bo, 0, none⟩ (Value.bool ok)).drew = W1 at *
  obtain ⟨w2, hrun, V2, G2⟩ := (show MapV W1.drew b c G c from V1).drop (t := 88) Tryz.underlying88 hu 0
  have c2 := S1.mp
  have HV := Lib.hid V2
  have HM := Lib.hid (M1.draw.grown G2 (by simpa using fun e => h6 e.symm))
  have HO := Lib.hid (show Vb w2 bo 4 (.bool ok) from (G2.block bo O1.lt (by simpa using fun e => h7 e.symm)).trans O1)
  have HK := Lib.hid K1
  have HG := Lib.hid G2
  clear K1 M1 O1 S1 V1 hM V2 G2
  go_upto_region 1 with (fail)
  go_region
  go_wp2_with fail
  go_end0
  exact ⟨rfl, (HK.out.drew.mono fun k e => .inl e).trans (KeptO.of_grown (S := fun k => (k = bm ∨ k = bo) ∨ k = b) HG.out fun r hr => by cases hr; exact .inr rfl) fun _ e => .inl e, HM.out, HO.out, _, HV.out.tight⟩

section
variable {R : TR} {g n : Nat} {S S' : Nat → Prop} {X : Nat → Option MI} {w : World}
/-- Without one identifier. -/
def dropX (X : Nat → Option MI) (u : Nat) : Nat → Option MI := fun v => if v = u then none else X v
theorem remove_in (h : TbX R g n S X w) (u i : Nat) (hu : u ≤ 4294967295) (hi : u % n = i) (bu bm bo : Nat) (cu : Vb w bu 27 (.int .u32 (u : Int))) (cm : M3 w bm msZ) (co : Vb w bo 4 (.bool false)) (nu : ¬ S bu) (nm : ¬ S bm) (no : ¬ S bo)
    (h1 : bm ≠ bo) (h2 : bu ≠ bm) (h5 : bu ≠ bo) :
    Calls Tryz.prog 64 #[.pointer (some ⟨g, 0, none⟩), .int .u32 u, .func (.func 80) #[] #[.pointer (some ⟨bu, 0, none⟩), .pointer (some ⟨bm, 0, none⟩), .pointer (some ⟨bo, 0, none⟩)]] w fun e w' => e = .returned (.tuple #[]) ∧
      M3 w' bm ((X u).getD msZ) ∧ Vb w' bo 4 (.bool (X u).isSome) ∧ TbX R g n S (dropX X u) w' ∧ ByAt w'.heap.size w' ((X u).getD msZ).A ((X u).getD msZ).k ((X u).getD msZ).b ∧ KeptO (fun k => ((k = bm ∨ k = bo) ∨ k = R.bb i) ∨ k = R.ss i) w w' := by
  have hin : i < n := by rw [← hi]; exact Nat.mod_lt _ h.hn.1
  have hs := h.Ks hin
  have hb := h.Kb hin
  have hsb : R.ss i ≠ R.bb i := h.sb _ _ hin hin
  have hsu : bu ≠ R.ss i := fun e => nu (e ▸ hs)
  have hsm : bm ≠ R.ss i := fun e => nm (e ▸ hs)
  have hso : bo ≠ R.ss i := fun e => no (e ▸ hs)
  have hbm : R.bb i ≠ bm := fun e => nm (e ▸ hb)
  have hbo : R.bb i ≠ bo := fun e => no (e ▸ hb)
  obtain ⟨c, hc⟩ := h.mp i hin
  obtain ⟨hy, hS⟩ := getD_body h u
  have hG : GX X n i u = (X u).map msV := by unfold GX; rw [if_pos hi]
  refine (in_fr 80 _ h u i hu hi (fun args w => by simp [go_sem]) (fun k => (k = bm ∨ k = bo) ∨ k = R.bb i) (fun e => e.elim (fun e => e.elim (fun e => hsm e.symm) (fun e => hso e.symm)) hsb)
    (fun w' => M3 w' bm ((X u).getD msZ) ∧ Vb w' bo 4 (.bool (X u).isSome) ∧ ∃ c, MapV w' (R.bb i) c (fun v => if v = u then none else GX X n i v) c) (fun W hk hst => ?_) ?_).mono ?_
  · exact remove1_any (R.ss i) (R.bb i) bu bm bo c u hu (GX X n i) (X u) hG W hst (cu.kept hk hsu).cell (cm.kept hk hsm) (co.kept hk hso) h1 h2 hsm.symm hso.symm h5 hbm hbo (hc.at_ (hk.block _ hc.lt (fun e => hsb e.symm)))
  · rintro W ⟨k2, k3, c, k4⟩ hlt
    exact ⟨k2.kept (KeptO.set W (R.ss i) 0 _) hsm, k3.kept (KeptO.set W (R.ss i) 0 _) hso, c, k4.at_ ((KeptO.set W (R.ss i) 0 _).block _ k4.lt fun e => hsb e.symm)⟩
  · rintro e w' ⟨rfl, ⟨k2, k3, c2, k4⟩, hst, hk⟩
    have hKK : ∀ k, ((k = bm ∨ k = bo) ∨ k = R.bb i) ∨ k = R.ss i → S k → R.K g n k := by
      rintro k (((rfl | rfl) | rfl) | rfl) j2
      · exact absurd j2 nm
      · exact absurd j2 no
      · exact .inr (.inr ⟨i, hin, .inr rfl⟩)
      · exact .inr (.inr ⟨i, hin, .inl rfl⟩)
    refine ⟨rfl, k2, k3, ?_, ?_, hk⟩
    · refine h.change i hin hk ?_ hst ⟨c2, k4.congr fun v _ => ?_⟩ (fun v hv => ?_) (fun _ => id) (fun k hk2 => Nat.lt_of_lt_of_le (h.lt k hk2) hk.size) fun v x hx => h.body hk hKK ?_
      · rintro k (((rfl | rfl) | rfl) | rfl) j2
        · exact absurd j2 nm
        · exact absurd j2 no
        · exact .inr rfl
        · exact .inl rfl
      · unfold GX dropX
        by_cases e : v = u
        · subst e
          rw [if_pos hi, if_pos rfl, if_pos rfl]
          rfl
        · rw [if_neg e, if_neg e]
      · unfold dropX
        rw [if_neg]
        rintro rfl
        exact hv hi
      · unfold dropX at hx
        split at hx
        · cases hx
        · exact hx
    · exact hy.keptO hk fun a ha e => (hS a ha).2 (hKK _ e (hS a ha).1)
set_option maxRecDepth 100000 in
set_option maxHeartbeats 2000000 in
theorem remove_go (h : TbX R g n S X w) (u : Nat) (hu : u ≤ 4294967295) :
    Calls Tryz.prog 60 #[.pointer (some ⟨g, 0, none⟩), .int .u32 u] w fun e w' => e = .returned (.tuple #[msV ((X u).getD msZ), .bool (X u).isSome]) ∧
      TbX R g n S (dropX X u) w' ∧ ByAt w'.heap.size w' ((X u).getD msZ).A ((X u).getD msZ).k ((X u).getD msZ).b ∧ KeptO S w w' := by
  have HC : Hid (∀ W, W = ((((w.alloc (.cells #[.int .u32 (u : Int)] 27)).alloc (.cells #[.int .u32 0, .int .u8 0, .slice none 0 0] 52)).alloc (.cells #[.int .u32 0, .int .u8 0, .slice none 0 0] 52)).alloc (.cells #[.bool false] 4)) →
      Calls Tryz.prog 64 #[.pointer (some ⟨g, 0, none⟩), .int .u32 u, .func (.func 80) #[] #[.pointer (some ⟨w.heap.size, 0, none⟩), .pointer (some ⟨w.heap.size + 1 + 1, 0, none⟩), .pointer (some ⟨w.heap.size + 1 + 1 + 1, 0, none⟩)]] W fun e w' => e = .returned (.tuple #[]) ∧
      M3 w' (w.heap.size + 1 + 1) ((X u).getD msZ) ∧ M3 w' (w.heap.size + 1) msZ ∧ Vb w' (w.heap.size + 1 + 1 + 1) 4 (.bool (X u).isSome) ∧ Hid (∀ a, ((X u).getD msZ).A = some a → S a.block) ∧ Hid (ByAt w'.heap.size w' ((X u).getD msZ).A ((X u).getD msZ).k ((X u).getD msZ).b) ∧ Hid (TbX R g n S (dropX X u) w') ∧ Hid (KeptO S w w')) := by
    refine Lib.hid fun W hW => ?_
    obtain ⟨x0, x1, x2, x3, hb, hz⟩ := four_new w _ _ _ _ W hW
    have hS : ∀ k, w.heap.size ≤ k → ¬ S k := fun k h1 h2 => by have := h.lt k h2; omega
    have hin : u % n < n := Nat.mod_lt _ h.hn.1
    refine (remove_in (h.below hb) u (u % n) hu rfl w.heap.size (w.heap.size + 1 + 1) (w.heap.size + 1 + 1 + 1) x0 x2 x3 (hS _ (by omega)) (hS _ (by omega)) (hS _ (by omega)) (by omega) (by omega) (by omega)).mono ?_
    rintro e w' ⟨rfl, k2, k3, k4, k5, k6⟩
    refine ⟨rfl, k2, x1.kept k6 ?_, k3, fun a ha => ((getD_body h u).2 a ha).1, k5, k4, ?_⟩
    · rintro (((e | e) | e) | e)
      · omega
      · omega
      · exact hS _ (by omega) (e ▸ h.Kb hin)
      · exact hS _ (by omega) (e ▸ h.Ks hin)
    · refine (KeptO.of_below (S := S) hb).trans k6 ?_
      rintro j (((e | e) | e) | e)
      · right; omega
      · right; omega
      · exact .inl (e ▸ h.Kb hin)
      · exact .inl (e ▸ h.Ks hin)
  have hS : ∀ k, S k → k < w.heap.size := h.lt
  generalize (X u).isSome = ok at *
  generalize (X u).getD msZ = y at *
  generalize dropX X u = X' at *
  clear h
  go_enter Tryz.func60, Tryz.ntmps60
  go_wp2_with fail
  refine (HC.out _ rfl).mono ?_
  rintro e w1 ⟨rfl, k2, k3, k4, k1, k5, k6, k7⟩
  clear HC
  have F1 := KeptO.drew (st3_kept w1 (w.heap.size + 1) y)
  have F2 := (k3.st3 y).draw
  obtain ⟨d0, d1, d2⟩ := k2.cells
  obtain ⟨f0, f1, f2⟩ := k3.cells
  have g0 := k3.fz 0
  have g1 := k3.fz 1
  have g2 := k3.fz 2
  have c0 := k4.cell
  clear k2 k3 k4
  unfold st3 at F1 F2
  go_upto_region 4 with (fail)
  go_region
  clear d0 d1 d2 f0 f1 f2 g0 g1 g2 c0
  generalize World.drew _ = w2 at *
  obtain ⟨d0, d1, d2⟩ := F2.cells
  have F2h := Lib.hid F2
  have F1h := Lib.hid F1
  clear F2 F1
  go_wp2_with fail
  refine bodyPost_ret (v := .tuple #[msV y, .bool ok]) ?_ rfl ?_
  · simp [results, Tryz.results60, go_sem, d0, d1, d2, msV]
  · refine ⟨rfl, k6.out.kept F1h.out fun k h1 h2 => by have := hS k h1; omega, k5.out.keptO F1h.out fun a ha e => by have := hS _ (k1.out a ha); omega, k7.out.trans F1h.out fun j e => ?_⟩
    right
    omega
end
end Go.Proofs.YthdbbappojkmoaaGreat

namespace Go.Proofs.YthdbbappojkmoaaGreat
open Go.RowKit Go.Maps

section
variable {g n : Nat} {S : Nat → Prop} {L : List MI} {w : World}
theorem tremove_any (u : Nat) (hu : u ≤ 4294967295) (h : Tb g n S L w) (_ : L.length ≤ 100000) :
    Calls Tryz.prog 60 #[.pointer (some ⟨g, 0, none⟩), .int .u32 u] w fun e w' => ∃ (x : MI) (S' : Nat → Prop), e = .returned (.tuple #[msV x, .bool (getM L u).isSome]) ∧
      sameM x ((getM L u).getD ⟨0, 0, none, 0, []⟩) = true ∧ ByAt w'.heap.size w' x.A x.k x.b ∧ Tb g n S' (remM L u) w' ∧ More S S' w ∧ KeptO S w w' := by
  obtain ⟨hG, R, X, hX, hL⟩ := h
  refine (remove_go hX u hu).mono ?_
  rintro e w' ⟨rfl, k1, k2, k3⟩
  refine ⟨_, S, by rw [hL.isSome], sameM_key (hL.zero u), k2, ⟨hG.rem u, R, _, k1, fun v => ?_⟩, More.refl _ _, k3⟩
  rw [getM_rem]
  unfold dropX
  by_cases e : v = u
  · rw [if_pos e, if_pos e]
  · rw [if_neg e, if_neg e]; exact hL v
end
end Go.Proofs.YthdbbappojkmoaaGreat
