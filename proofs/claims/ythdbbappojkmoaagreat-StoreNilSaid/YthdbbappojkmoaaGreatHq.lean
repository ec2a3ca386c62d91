/- The table of layer 13: Put. -/
import Derived.Test.YthdbbappojkmoaaGreatHp
import Derived.Test.YthdbbappojkmoaaGreatHc
namespace Go.Proofs.YthdbbappojkmoaaGreat
open Go.RowKit Go.Maps

theorem grown_undrew {w w' : World} {r : Option Nat} (h : w.drew.grownBy w' r) : w.grownBy w' r := ⟨h.os, h.tape, h.output, h.size, h.block⟩

set_option maxRecDepth 100000 in
set_option maxHeartbeats 2000000 in
theorem put1_dup (s b bm bc c : Nat) (m : MI) (hu : m.u ≤ 4294967295) (G : Nat → Option Value) (x : MI) (hG : G m.u = some (msV x)) (W : World) (hs : Strp s b 1 W)
    (cm : M3 W bm m) (co : Vb W bc 29 (.int .i64 0)) (hM : MapV W b c G c) :
    Calls Tryz.prog 75 #[.pointer (some ⟨s, 0, none⟩), .pointer (some ⟨bm, 0, none⟩), .pointer (some ⟨bc, 0, none⟩)] W fun e w' => e = .returned (.tuple #[]) ∧ KeptO (fun k => k = bc) W w' ∧ Vb w' bc 29 (.int .i64 8) := by
  have hlk := Lib.hid (fun W' (h : MapV W' b c G c) => h.look (t := 88) Tryz.underlying88 (zeroM _) hu)
  have hl0 := hlk.out W.drew hM
  have hl1 := hlk.out (W.alloc (.cells #[.int .u32 0, .int .u8 0, .slice none 0 0] 52)).drew (show MapV (W.alloc _) b c G c from hM.below (below_al W _))
  rw [hG] at hl0 hl1
  simp only [Option.getD_some, Option.isSome_some] at hl0 hl1
  have c2 := hs.mp
  have B1 : Below W.heap.size W (W.alloc (.cells #[.int .u32 (x.u : Int), .int .u8 (x.f : Int), .slice x.A x.b.length x.k] 52)).drew := belowDraw (below_al W _)
  have O1 := Lib.hid (co.below B1)
  have HB1 := Lib.hid B1
  clear B1
  have co0 := co.cell
  have co1 := co.fz
  obtain ⟨d0, d1, d2⟩ := cm.cells
  have l1 := hs.lt
  have l2 := cm.lt
  have l3 := co.lt
  clear hlk hG
  unfold msV at hl0 hl1
  go_enter Tryz.func75, Tryz.ntmps75
  go_upto_region 0 with (fail)
  go_region
  all_goals
    clear hl0 hl1 c2 co0 co1 d0 d1 d2 l1 l2 l3 cm co hs hM
    generalize World.drew _ = W1 at *
    have co0 := O1.out.cell
    have co1 := O1.out.fz
    go_wp2_with fail
    refine bodyPost_ret (results_none rfl _ _ _) rfl ?_
    exact ⟨rfl, (KeptO.of_below (S := fun k => k = bc) HB1.out).trans (KeptO.set _ bc 0 _) fun _ e => .inl e, O1.out.set _⟩

set_option maxRecDepth 100000 in
set_option maxHeartbeats 4000000 in
theorem put1_new (s b bm bc c : Nat) (m : MI) (hu : m.u ≤ 4294967295) (G : Nat → Option Value) (hG : G m.u = none) (W : World) (hs : Strp s b 1 W)
    (cm : M3 W bm m) (co : Vb W bc 29 (.int .i64 0)) (h1 : bm ≠ bc) (h2 : b ≠ bm) (h3 : b ≠ bc) (h4 : s ≠ bm) (hM : MapV W b c G c) (hc : c < 1000000) (hy : ByAt W.heap.size W m.A m.k m.b) (hl : m.b.length ≤ 65536) :
    Calls Tryz.prog 75 #[.pointer (some ⟨s, 0, none⟩), .pointer (some ⟨bm, 0, none⟩), .pointer (some ⟨bc, 0, none⟩)] W fun e w' => e = .returned (.tuple #[]) ∧ KeptO (fun k => k = bm ∨ k = b) W w' ∧ Vb w' bc 29 (.int .i64 0) ∧
      ∃ A' k', w'.ownsRow W.heap.size 5 1 (.slice A' m.b.length k') m.b.length (flatL encB m.b) ∧ ∃ c, MapV w' b c (fun v => if v = m.u then some (msV { m with A := A', k := k' }) else G v) c := by
  have hlk := Lib.hid (fun W' (h : MapV W' b c G c) => h.look (t := 88) Tryz.underlying88 (zeroM _) hu)
  have hl0 : (Instr.lookup 88 (.map (some b)) (.int .u32 (m.u : Int)) true).run Tryz.prog W.drew = .ok (.tuple #[.agg #[.int .u32 0, .int .u8 0, .slice none 0 0], .bool false]) W.drew := by
    have := hlk.out W.drew hM
    rw [hG] at this
    exact this
  have hl1 : (Instr.lookup 88 (.map (some b)) (.int .u32 (m.u : Int)) true).run Tryz.prog (W.alloc (.cells #[.int .u32 0, .int .u8 0, .slice none 0 0] 52)).drew = .ok (.tuple #[.agg #[.int .u32 0, .int .u8 0, .slice none 0 0], .bool false]) (W.alloc (.cells #[.int .u32 0, .int .u8 0, .slice none 0 0] 52)).drew := by
    have := hlk.out (W.alloc (.cells #[.int .u32 0, .int .u8 0, .slice none 0 0] 52)).drew (show MapV (W.alloc _) b c G c from hM.below (below_al W _))
    rw [hG] at this
    exact this
  have c2 := hs.mp
  obtain ⟨d0, d1, d2⟩ := cm.cells
  have l1 := hs.lt
  have l2 := cm.lt
  have B1 : Below W.heap.size W (W.alloc (.cells #[.int .u32 0, .int .u8 0, .slice none 0 0] 52)).drew := belowDraw (below_al W _)
  have M1 := Lib.hid (cm.below B1)
  have O1 := Lib.hid (co.below B1)
  have S1 := Lib.hid (hs.at_ (B1.block s hs.lt))
  have V1 := Lib.hid (hM.below B1)
  have Y1 := Lib.hid ((hy.here.grow B1).here)
  have HB1 := Lib.hid B1
  have hlt := Lib.hid hM.lt
  clear hlk B1
  go_enter Tryz.func75, Tryz.ntmps75
  go_upto_region 0 with (fail)
  go_region
  all_goals
    clear hl0 hl1 c2 d0 d1 d2 l1 l2 cm co hs hM hy
    generalize World.drew _ = W1 at *
    have CL := Lib.hid (bclone_any m.A m.k m.b.length m.b rfl (by omega) W1 Y1.out)
    obtain ⟨-, -, d2⟩ := M1.out.cells
    go_upto_region 3 with (fail)
    go_wp2_with fail
    refine CL.out.mono ?_
    rintro e w2 ⟨A', k', rfl, hown, hb⟩
    have d3 := (hb.cell (p := ⟨bm, 2, none⟩) M1.out.lt).trans d2
    have e3 := (M1.out.below hb).fz 2
    have KS := KeptO.set w2 bm 2 (.slice A' m.b.length k')
    have M3' := (M1.out.below hb).st2 A' k' m.b _ rfl
    have O3 := Lib.hid ((O1.out.below hb).kept KS fun e => h1 e.symm)
    have S3 := (S1.out.at_ (hb.block s S1.out.lt)).kept KS h4
    have V3 := (V1.out.below hb).at_ (KS.block b (V1.out.below hb).lt h2)
    have W3 := Lib.hid (own_mono (own_keptO hown KS fun k e => by subst e; exact M1.out.lt) HB1.out.size)
    have K3 := Lib.hid (((KeptO.of_below (S := fun k => k = bm) HB1.out).then_below hb).trans KS fun _ e => .inl e)
    clear hown hb CL M1 O1 S1 V1 Y1 HB1 d2
    go_upto_region 4 with (fail)
    generalize World.setCell _ _ _ = w3 at *
    obtain ⟨f0, f1, f2⟩ := M3'.cells
    have c2 := S3.mp
    obtain ⟨w4, hrun, V4, G4⟩ := (show MapV w3.drew b c G c from V3).store (t := 88) Tryz.underlying88 (by unfold maxLen; omega) hu (msV { m with A := A', k := k' })
    unfold msV at hrun
    have HV := Lib.hid V4
    have HG := Lib.hid G4
    have HO := Lib.hid (show Vb w4 bc 29 (.int .i64 0) from (G4.block bc O3.out.lt (by simpa using fun e => h3 e.symm)).trans O3.out)
    have hsz := V3.lt
    have hltb := Lib.hid M3'.lt
    clear V4 G4 V3 S3 M3' O3 d3 e3 KS
    go_region
    all_goals
      go_wp2_with fail
      go_end0
      refine ⟨rfl, (K3.out.drew.mono fun k e => .inl e).trans (KeptO.of_grown (S := fun k => k = bm ∨ k = b) HG.out fun r hr => by cases hr; exact .inr rfl) fun _ e => .inl e, HO.out, A', k', ?_, _, HV.out.tight⟩
      exact own_keptO W3.out (KeptO.of_grown (S := fun k => k = b) (grown_undrew HG.out) fun r hr => by cases hr; rfl) fun k e => by subst e; exact hlt.out
end Go.Proofs.YthdbbappojkmoaaGreat

namespace Go.Proofs.YthdbbappojkmoaaGreat
open Go.RowKit Go.Maps

/-- With one message more. -/
def putX (X : Nat → Option MI) (m : MI) : Nat → Option MI := fun v => if v = m.u then some m else X v
theorem own_blkT {w : World} {base n m k : Nat} {e : TypeId} {A : Option Addr} {xs : List Value} (h : w.ownsRow base e 1 (.slice A m k) n xs) : ∀ a, A = some a → base ≤ a.block ∧ a.block < w.heap.size := by
  intro a ha
  rcases h.2 with ⟨h1, _⟩ | ⟨g, cap, cur, h1, hb, h3, _⟩
  · injection h1 with h1
    rw [h1] at ha
    cases ha
  · injection h1 with h1
    rw [h1] at ha
    injection ha with ha
    subst ha
    exact ⟨hb, (Array.getElem?_eq_some_iff.1 h3).1⟩
section
variable {R : TR} {g n : Nat} {S S' : Nat → Prop} {X : Nat → Option MI} {w : World}
theorem put_in_dup (h : TbX R g n S X w) (m x : MI) (i : Nat) (hu : m.u ≤ 4294967295) (hi : m.u % n = i) (hx : X m.u = some x) (bm bc : Nat) (cm : M3 w bm m) (co : Vb w bc 29 (.int .i64 0)) (nm : ¬ S bm) (nc : ¬ S bc) :
    Calls Tryz.prog 64 #[.pointer (some ⟨g, 0, none⟩), .int .u32 m.u, .func (.func 75) #[] #[.pointer (some ⟨bm, 0, none⟩), .pointer (some ⟨bc, 0, none⟩)]] w fun e w' => e = .returned (.tuple #[]) ∧
      Vb w' bc 29 (.int .i64 8) ∧ TbX R g n S X w' ∧ KeptO (fun k => k = bc ∨ k = R.ss i) w w' := by
  have hin : i < n := by rw [← hi]; exact Nat.mod_lt _ h.hn.1
  have hs := h.Ks hin
  have hb := h.Kb hin
  have hsb : R.ss i ≠ R.bb i := h.sb _ _ hin hin
  have hsm : bm ≠ R.ss i := fun e => nm (e ▸ hs)
  have hsc : bc ≠ R.ss i := fun e => nc (e ▸ hs)
  obtain ⟨c, hc⟩ := h.mp i hin
  have hG : GX X n i m.u = some (msV x) := by unfold GX; rw [if_pos hi, hx]; rfl
  refine (in_fr 75 _ h m.u i hu hi (fun args w => by simp [go_sem]) (fun k => k = bc) (fun e => hsc e.symm)
    (fun w' => Vb w' bc 29 (.int .i64 8)) (fun W hk hst => ?_) ?_).mono ?_
  · exact put1_dup (R.ss i) (R.bb i) bm bc c m hu (GX X n i) x hG W hst (cm.kept hk hsm) (co.kept hk hsc) (hc.at_ (hk.block _ hc.lt (fun e => hsb e.symm)))
  · intro W k hlt
    exact k.kept (KeptO.set W (R.ss i) 0 _) hsc
  · rintro e w' ⟨rfl, k2, hst, hk⟩
    have hKK : ∀ k, k = bc ∨ k = R.ss i → S k → R.K g n k := by
      rintro k (rfl | rfl) j2
      · exact absurd j2 nc
      · exact .inr (.inr ⟨i, hin, .inl rfl⟩)
    refine ⟨rfl, k2, ?_, hk⟩
    refine h.change i hin hk ?_ hst ⟨c, hc.at_ (hk.block _ hc.lt ?_)⟩ (fun v hv => rfl) (fun _ => id) (fun k hk2 => Nat.lt_of_lt_of_le (h.lt k hk2) hk.size) fun v x hx => h.body hk hKK hx
    · rintro k (rfl | rfl) j2
      · exact absurd j2 nc
      · exact .inl rfl
    · rintro (e | e)
      · exact nc (e ▸ hb)
      · exact hsb e.symm
theorem put_in_new (h : TbX R g n S X w) (m : MI) (i : Nat) (hu : m.u ≤ 4294967295) (hi : m.u % n = i) (hx : X m.u = none) (bm bc : Nat) (cm : M3 w bm m) (co : Vb w bc 29 (.int .i64 0)) (nm : ¬ S bm) (nc : ¬ S bc) (h1 : bm ≠ bc)
    (hc : ∃ c, c < 1000000 ∧ MapV w (R.bb i) c (GX X n i) c) (hy : ByAt w.heap.size w m.A m.k m.b) (hl : m.b.length ≤ 65536) (ho : ∀ a, m.A = some a → m.b = [] ∨ a.block ≠ R.ss i) :
    Calls Tryz.prog 64 #[.pointer (some ⟨g, 0, none⟩), .int .u32 m.u, .func (.func 75) #[] #[.pointer (some ⟨bm, 0, none⟩), .pointer (some ⟨bc, 0, none⟩)]] w fun e w' => e = .returned (.tuple #[]) ∧
      Vb w' bc 29 (.int .i64 0) ∧ (∃ m' : MI, keyM m' = keyM m ∧ TbX R g n (fun k => S k ∨ (w.heap.size ≤ k ∧ k < w'.heap.size)) (putX X m') w') ∧ KeptO (fun k => (k = bm ∨ k = R.bb i) ∨ k = R.ss i) w w' := by
  have hin : i < n := by rw [← hi]; exact Nat.mod_lt _ h.hn.1
  have hs := h.Ks hin
  have hb := h.Kb hin
  have hsb : R.ss i ≠ R.bb i := h.sb _ _ hin hin
  have hsm : bm ≠ R.ss i := fun e => nm (e ▸ hs)
  have hsc : bc ≠ R.ss i := fun e => nc (e ▸ hs)
  have hbm : R.bb i ≠ bm := fun e => nm (e ▸ hb)
  have hbc : R.bb i ≠ bc := fun e => nc (e ▸ hb)
  obtain ⟨c, hc1, hc⟩ := hc
  have hG : GX X n i m.u = none := by unfold GX; rw [if_pos hi, hx]; rfl
  refine (in_fr 75 _ h m.u i hu hi (fun args w => by simp [go_sem]) (fun k => k = bm ∨ k = R.bb i) (fun e => e.elim (fun e => hsm e.symm) hsb)
    (fun w' => Vb w' bc 29 (.int .i64 0) ∧ ∃ A' k', w'.ownsRow w.heap.size 5 1 (.slice A' m.b.length k') m.b.length (flatL encB m.b) ∧ ∃ c, MapV w' (R.bb i) c (fun v => if v = m.u then some (msV { m with A := A', k := k' }) else GX X n i v) c) (fun W hk hst => ?_) ?_).mono ?_
  · have hyW : ByAt W.heap.size W m.A m.k m.b := by
      by_cases e0 : m.b = []
      · rw [e0]
        exact ⟨Nat.zero_le _, .inl rfl⟩
      · exact hy.keptO hk fun a ha e => (ho a ha).elim e0 fun e2 => e2 e
    refine (put1_new (R.ss i) (R.bb i) bm bc c m hu (GX X n i) hG W hst (cm.kept hk hsm) (co.kept hk hsc) h1 hbm hbc hsm.symm (hc.at_ (hk.block _ hc.lt (fun e => hsb e.symm))) hc1 hyW hl).mono ?_
    rintro e w' ⟨rfl, k1, k2, A', k', k3, k4⟩
    exact ⟨rfl, k1, k2, A', k', own_mono k3 hk.size, k4⟩
  · rintro W ⟨k1, A', k', k3, c, k4⟩ hlt
    exact ⟨k1.kept (KeptO.set W (R.ss i) 0 _) hsc, A', k', own_keptO k3 (KeptO.set W (R.ss i) 0 _) (fun k e => by subst e; exact h.lt _ hs), c, k4.at_ ((KeptO.set W (R.ss i) 0 _).block _ k4.lt fun e => hsb e.symm)⟩
  · rintro e w' ⟨rfl, ⟨k1, A', k', k3, c2, k4⟩, hst, hk⟩
    have hKK : ∀ k, (k = bm ∨ k = R.bb i) ∨ k = R.ss i → S k → R.K g n k := by
      rintro k ((rfl | rfl) | rfl) j2
      · exact absurd j2 nm
      · exact .inr (.inr ⟨i, hin, .inr rfl⟩)
      · exact .inr (.inr ⟨i, hin, .inl rfl⟩)
    refine ⟨rfl, k1, ⟨{ m with A := A', k := k' }, rfl, ?_⟩, hk⟩
    refine h.change i hin hk ?_ hst ⟨c2, k4.congr fun v _ => ?_⟩ (fun v hv => ?_) (fun _ => .inl) (fun k hk2 => ?_) fun v x hx2 => ?_
    · rintro k ((rfl | rfl) | rfl) j2
      · exact absurd j2 nm
      · exact .inr rfl
      · exact .inl rfl
    · unfold GX putX
      by_cases e : v = m.u
      · subst e
        rw [if_pos hi, if_pos rfl, if_pos rfl]
        rfl
      · rw [if_neg e]
        simp only [if_neg e]
    · unfold putX
      rw [if_neg]
      rintro rfl
      exact hv hi
    · exact hk2.elim (fun h2 => Nat.lt_of_lt_of_le (h.lt k h2) hk.size) (·.2)
    · unfold putX at hx2
      split at hx2
      · rename_i e
        injection hx2 with hx2
        subst hx2
        refine ⟨e.symm, ByAt.of_own k3, fun a ha => ?_⟩
        have hbl := own_blkT k3 a ha
        exact ⟨.inr hbl, fun e2 => by have := h.lt _ (h.K _ e2); omega⟩
      · obtain ⟨j1, j2, j3⟩ := h.body hk hKK hx2
        exact ⟨j1, j2, fun a ha => ⟨.inl (j3 a ha).1, (j3 a ha).2⟩⟩
end
end Go.Proofs.YthdbbappojkmoaaGreat

namespace Go.Proofs.YthdbbappojkmoaaGreat
open Go.RowKit Go.Maps

theorem high_flags : ∀ f : Fin 256, (f.val &&& (255 - 31) = 0) = (f.val ≤ 31) := by decide +kernel
theorem flags_bad {f : Nat} (h : f ≤ 255) (h1 : 31 < f) : (bits BinOp.andNot IntKind.u8 (f : Int) 31 != 0) = true := by
  have e := u8_andNot_nat f 31 (by omega) (by omega)
  rw [show ((31 : Nat) : Int) = 31 from rfl] at e
  rw [e]
  have := high_flags ⟨f, by omega⟩
  simp only [bne_iff_ne, ne_eq, Int.natCast_eq_zero]
  intro e2
  have := this.mp e2
  simp only at this
  omega
theorem flags_fit {f : Nat} (h1 : f ≤ 31) : (bits BinOp.andNot IntKind.u8 (f : Int) 31 != 0) = false := by
  have e := u8_andNot_nat f 31 (by omega) (by omega)
  rw [show ((31 : Nat) : Int) = 31 from rfl] at e
  rw [e]
  have := high_flags ⟨f, by omega⟩
  have := this.mpr h1
  simp only at this
  rw [this]
  rfl
section
variable {g : Nat} {w : World}
set_option maxRecDepth 100000 in
set_option maxHeartbeats 1000000 in
theorem put_bad (m : MI) (hf : m.f ≤ 255) (h : m.u = 0 ∨ 31 < m.f ∨ 65536 < m.b.length) :
    Calls Tryz.prog 54 #[.pointer (some ⟨g, 0, none⟩), msV m] w fun e w' => e = .returned (.int .i64 2) ∧ Below w.heap.size w w' := by
  unfold msV
  by_cases h0 : m.u = 0
  · rw [h0]
    generalize m.b.length = bl at *
    clear h
    go_enter Tryz.func54, Tryz.ntmps54
    go_wp2_with fail
    go_ret
    exact ⟨rfl, below_al _ _⟩
  · have hu : ((m.u : Int) == 0) = false := by simp; omega
    by_cases h1 : 31 < m.f
    · have hb := flags_bad hf h1
      generalize m.b.length = bl at *
      generalize m.u = u at *
      generalize m.f = f at *
      clear h h1 hf
      go_enter Tryz.func54, Tryz.ntmps54
      go_wp2_with fail
      go_ret
      exact ⟨rfl, below_al _ _⟩
    · have hb := flags_fit (f := m.f) (by omega)
      have hl : (65536 : Int) < (m.b.length : Int) := by omega
      generalize m.b.length = bl at *
      generalize m.u = u at *
      generalize m.f = f at *
      clear h h1 hf
      go_enter Tryz.func54, Tryz.ntmps54
      go_wp2_with fail
      go_ret
      exact ⟨rfl, below_al _ _⟩
set_option maxRecDepth 100000 in
set_option maxHeartbeats 1000000 in
theorem put_ok (m : MI) (h : ¬ (m.u = 0 ∨ 31 < m.f ∨ 65536 < m.b.length)) (cd : Nat) (Q : World → Prop)
    (hc : ∀ W, W = (w.alloc (.cells #[.int .u32 (m.u : Int), .int .u8 (m.f : Int), .slice m.A m.b.length m.k] 52)).alloc (.cells #[.int .i64 0] 29) →
      Calls Tryz.prog 64 #[.pointer (some ⟨g, 0, none⟩), .int .u32 m.u, .func (.func 75) #[] #[.pointer (some ⟨w.heap.size, 0, none⟩), .pointer (some ⟨w.heap.size + 1, 0, none⟩)]] W fun e w' => e = .returned (.tuple #[]) ∧ Vb w' (w.heap.size + 1) 29 (.int .i64 cd) ∧ Q w') :
    Calls Tryz.prog 54 #[.pointer (some ⟨g, 0, none⟩), msV m] w fun e w' => e = .returned (.int .i64 cd) ∧ Q w' := by
  have HC := Lib.hid hc
  have hu : ((m.u : Int) == 0) = false := by simp; omega
  have hb := flags_fit (f := m.f) (by omega)
  have hl : ¬ (65536 : Int) < (m.b.length : Int) := by omega
  clear hc h
  unfold msV
  generalize m.b.length = bl at *
  generalize m.u = u at *
  generalize m.f = f at *
  generalize m.A = A at *
  generalize m.k = k at *
  go_enter Tryz.func54, Tryz.ntmps54
  go_wp2_with fail
  refine (HC.out _ rfl).mono ?_
  rintro e w1 ⟨rfl, k1, k2⟩
  have c0 := k1.cell
  have HQ := Lib.hid k2
  clear k1 k2 HC
  go_wp2_with fail
  go_ret
  exact ⟨rfl, HQ.out⟩
end
section
variable {g n : Nat} {S : Nat → Prop} {L : List MI} {w : World}
theorem getM_fdI (l : List MI) (u : Nat) : (0 ≤ fdI l u) ↔ (getM l u).isSome = true := by
  rcases fdI_get l u with ⟨h1, h2⟩ | ⟨k, hk, h1, h2, _⟩
  · rw [h1, h2]; simp
  · rw [h1, h2]; simp
theorem two_new13 (w : World) (m : MI) (W : World) (hW : W = (w.alloc (.cells #[.int .u32 (m.u : Int), .int .u8 (m.f : Int), .slice m.A m.b.length m.k] 52)).alloc (.cells #[.int .i64 0] 29)) :
    M3 W w.heap.size m ∧ Vb W (w.heap.size + 1) 29 (.int .i64 0) ∧ Below w.heap.size w W ∧ W.heap.size = w.heap.size + 2 := by
  subst hW
  have b0 := below_al w (.cells #[.int .u32 (m.u : Int), .int .u8 (m.f : Int), .slice m.A m.b.length m.k] 52)
  have z0 : (w.alloc (.cells #[.int .u32 (m.u : Int), .int .u8 (m.f : Int), .slice m.A m.b.length m.k] 52)).heap.size = w.heap.size + 1 := by simp
  have x0 : M3 (w.alloc (.cells #[.int .u32 (m.u : Int), .int .u8 (m.f : Int), .slice m.A m.b.length m.k] 52)) w.heap.size m := M3.new rfl
  generalize w.alloc (.cells #[.int .u32 (m.u : Int), .int .u8 (m.f : Int), .slice m.A m.b.length m.k] 52) = w1 at *
  have b1 := below_al w1 (.cells #[.int .i64 0] 29)
  have z1 : (w1.alloc (.cells #[.int .i64 0] 29)).heap.size = w1.heap.size + 1 := by simp
  have x1 := Vb.new w1 29 (.int .i64 0)
  rw [z0] at x1
  exact ⟨x0.below b1, x1, below_next b0 b1, by omega⟩
theorem tput_any (m : MI) (hu : m.u ≤ 4294967295) (hf : m.f ≤ 255) (hm : ByAt w.heap.size w m.A m.k m.b) (ho : m.b = [] ∨ Out S m.A) (h : Tb g n S L w) (hl : L.length ≤ 100000) :
    Calls Tryz.prog 54 #[.pointer (some ⟨g, 0, none⟩), msV m] w fun e w' => ∃ S', e = .returned (.int .i64 (putM L m).2) ∧ Tb g n S' (putM L m).1 w' ∧ More S S' w ∧ KeptO S w w' := by
  by_cases hb : m.u = 0 ∨ 31 < m.f ∨ 65536 < m.b.length
  · unfold putM
    rw [if_pos hb]
    refine (put_bad m hf hb).mono ?_
    rintro e w' ⟨rfl, hk⟩
    exact ⟨S, rfl, h.kept (KeptO.of_below (S := fun _ => False) hk) fun _ _ => id, More.refl _ _, KeptO.of_below hk⟩
  · obtain ⟨hG, R, X, hX, hLike⟩ := h
    have hS : ∀ k, w.heap.size ≤ k → ¬ S k := fun k h1 h2 => by have := hX.lt k h2; omega
    have hin : m.u % n < n := Nat.mod_lt _ hX.hn.1
    unfold putM
    rw [if_neg hb]
    by_cases hd : 0 ≤ fdI L m.u
    · rw [if_pos hd]
      have hs := (getM_fdI L m.u).1 hd
      rw [← hLike.isSome] at hs
      obtain ⟨x, hx⟩ := Option.isSome_iff_exists.1 hs
      refine (put_ok m hb 8 (fun w' => TbX R g n S X w' ∧ KeptO S w w') fun W hW => ?_).mono ?_
      · obtain ⟨x0, x1, hbl, hz⟩ := two_new13 w m W hW
        refine (put_in_dup (hX.below hbl) m x (m.u % n) hu rfl hx w.heap.size (w.heap.size + 1) x0 x1 (hS _ (by omega)) (hS _ (by omega))).mono ?_
        rintro e w' ⟨rfl, k1, k2, k3⟩
        refine ⟨rfl, k1, k2, (KeptO.of_below (S := S) hbl).trans k3 ?_⟩
        rintro j (e | e)
        · right; omega
        · exact .inl (e ▸ hX.Ks hin)
      · rintro e w' ⟨rfl, k1, k2⟩
        exact ⟨S, rfl, ⟨hG, R, X, k1, hLike⟩, More.refl _ _, k2⟩
    · rw [if_neg hd]
      have hs : X m.u = none := by
        cases hx : X m.u with
        | none => rfl
        | some x =>
          exfalso
          apply hd
          rw [getM_fdI, ← hLike.isSome, hx]
          rfl
      have hs2 : getM L m.u = none := by
        cases hx : getM L m.u with
        | none => rfl
        | some x => exact absurd ((getM_fdI L m.u).2 (by rw [hx]; rfl)) hd
      have hsz : m.u % n < (szM L n).length := by rw [szM_len]; exact hin
      have hc := hX.cnt hLike hG hin hsz
      have hcl := szM_le L n hsz
      generalize (szM L n)[m.u % n]'hsz = c at *
      refine (put_ok m hb 0 (fun w' => (∃ m' : MI, keyM m' = keyM m ∧ ∃ S', TbX R g n S' (putX X m') w' ∧ More S S' w) ∧ KeptO S w w') fun W hW => ?_).mono ?_
      · obtain ⟨x0, x1, hbl, hz⟩ := two_new13 w m W hW
        refine (put_in_new (hX.below hbl) m (m.u % n) hu rfl hs w.heap.size (w.heap.size + 1) x0 x1 (hS _ (by omega)) (hS _ (by omega)) (by omega) ⟨c, by omega, hc.below hbl⟩ (hm.grow hbl).here (by omega) (fun a ha => ho.imp id fun ho e => ho a ha (e ▸ hX.Ks hin))).mono ?_
        rintro e w' ⟨rfl, k1, ⟨m', k2, k3⟩, k4⟩
        refine ⟨rfl, k1, ⟨m', k2, _, k3, fun _ => .inl, ?_⟩, (KeptO.of_below (S := S) hbl).trans k4 ?_⟩
        · rintro k (e | ⟨e, _⟩)
          · exact .inl e
          · right; omega
        · rintro j ((e | e) | e)
          · right; omega
          · exact .inl (e ▸ hX.Kb hin)
          · exact .inl (e ▸ hX.Ks hin)
      · rintro e w' ⟨rfl, ⟨m', k1, S', k2, k3⟩, k4⟩
        refine ⟨S', rfl, ⟨hG.put hs2 ⟨by omega, hu, by omega, by omega⟩, R, _, k2, fun v => ?_⟩, k3, k4⟩
        have e1 : m'.u = m.u := congrArg Prod.fst k1
        rw [getM_append L m v hs2]
        unfold putX
        by_cases e : v = m.u
        · rw [if_pos e, if_pos (e.trans e1.symm)]
          exact congrArg some k1
        · rw [if_neg e, if_neg fun e2 => e (e2.trans e1)]
          exact hLike v
set_option maxRecDepth 100000 in
theorem tput_nil (m : MI) (w : World) : Calls Tryz.prog 54 #[.pointer none, msV m] w fun e w' => e = .returned (.int .i64 1) ∧ Below w.heap.size w w' := by
  unfold msV
  generalize m.b.length = bl at *
  go_enter Tryz.func54, Tryz.ntmps54
  go_wp2_with fail
  go_ret
  exact ⟨rfl, below_al _ _⟩
end
end Go.Proofs.YthdbbappojkmoaaGreat
