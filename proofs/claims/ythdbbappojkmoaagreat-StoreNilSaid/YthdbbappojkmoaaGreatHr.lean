/- The table of layer 13: Flags' closure. -/
import Derived.Test.YthdbbappojkmoaaGreatHq
import Derived.Test.YthdbbappojkmoaaGreatHn
namespace Go.Proofs.YthdbbappojkmoaaGreat
open Go.RowKit Go.Maps

theorem M3.st1 {W : World} {b : Nat} {m : MI} (h : M3 W b m) (y : Nat) : M3 (W.setCell ⟨b, 1, none⟩ (.int .u8 (y : Int))) b { m with f := y } := by
  have h3 := Joins.block_setCell (i := 1) h (.int .u8 (y : Int))
  simp at h3
  exact h3
/-- The variables of Flags: the identifier, the mode, the flags; what comes out: the flags, the code. -/
structure FlB (bu bo bf ba bc : Nat) (u : Nat) (mo : Int) (f : Nat) (av cd : Int) (W : World) : Prop where
  u : Vb W bu 27 (.int .u32 (u : Int))
  o : Vb W bo 3 (.int .i64 mo)
  f : Vb W bf 32 (.int .u8 (f : Int))
  a : Vb W ba 32 (.int .u8 av)
  c : Vb W bc 29 (.int .i64 cd)
theorem FlB.kept {bu bo bf ba bc u f : Nat} {mo av cd : Int} {W W' : World} {S : Nat → Prop} (h : FlB bu bo bf ba bc u mo f av cd W) (hk : KeptO S W W') (h1 : ¬ S bu) (h2 : ¬ S bo) (h3 : ¬ S bf) (h4 : ¬ S ba) (h5 : ¬ S bc) : FlB bu bo bf ba bc u mo f av cd W' :=
  ⟨h.u.kept hk h1, h.o.kept hk h2, h.f.kept hk h3, h.a.kept hk h4, h.c.kept hk h5⟩
theorem FlB.below {bu bo bf ba bc u f : Nat} {mo av cd : Int} {W W' : World} (h : FlB bu bo bf ba bc u mo f av cd W) (hk : Below W.heap.size W W') : FlB bu bo bf ba bc u mo f av cd W' := h.kept (S := fun _ => False) (KeptO.of_below hk) id id id id id

section
variable (s b bu bo bf ba bc c u f : Nat) (mo : Int) (G : Nat → Option Value) (W : World)
set_option maxRecDepth 100000 in
set_option maxHeartbeats 2000000 in
theorem flags1_none (hu : u ≤ 4294967295) (hG : G u = none) (hs : Strp s b 1 W) (hB : FlB bu bo bf ba bc u mo f 0 7 W) (hM : MapV W b c G c) :
    Calls Tryz.prog 76 #[.pointer (some ⟨s, 0, none⟩), .pointer (some ⟨bu, 0, none⟩), .pointer (some ⟨bo, 0, none⟩), .pointer (some ⟨bf, 0, none⟩), .pointer (some ⟨ba, 0, none⟩), .pointer (some ⟨bc, 0, none⟩)] W fun e w' => e = .returned (.tuple #[]) ∧ Below W.heap.size W w' := by
  have hlk := Lib.hid (fun W' (h : MapV W' b c G c) => h.look (t := 88) Tryz.underlying88 (zeroM _) hu)
  have hl0 : (Instr.lookup 88 (.map (some b)) (.int .u32 (u : Int)) true).run Tryz.prog W.drew = .ok (.tuple #[.agg #[.int .u32 0, .int .u8 0, .slice none 0 0], .bool false]) W.drew := by
    have := hlk.out W.drew hM
    rw [hG] at this
    exact this
  have hl1 : (Instr.lookup 88 (.map (some b)) (.int .u32 (u : Int)) true).run Tryz.prog (W.alloc (.cells #[.int .u32 0, .int .u8 0, .slice none 0 0] 52)).drew = .ok (.tuple #[.agg #[.int .u32 0, .int .u8 0, .slice none 0 0], .bool false]) (W.alloc (.cells #[.int .u32 0, .int .u8 0, .slice none 0 0] 52)).drew := by
    have := hlk.out (W.alloc (.cells #[.int .u32 0, .int .u8 0, .slice none 0 0] 52)).drew (show MapV (W.alloc _) b c G c from hM.below (below_al W _))
    rw [hG] at this
    exact this
  have c2 := hs.mp
  have l1 := hs.lt
  have d0 := hB.u.cell
  have l2 := hB.u.lt
  have B1 : Below W.heap.size W (W.alloc (.cells #[.int .u32 0, .int .u8 0, .slice none 0 0] 52)).drew := belowDraw (below_al W _)
  have HB1 := Lib.hid B1
  clear hlk B1 hB
  go_enter Tryz.func76, Tryz.ntmps76
  go_upto_region 0 with (fail)
  go_region
  all_goals
    clear hl0 hl1 c2 d0 l1 l2 hs hM
    generalize World.drew _ = W1 at *
    go_wp2_with fail
    refine bodyPost_ret (results_none rfl _ _ _) rfl ?_
    exact ⟨rfl, HB1.out⟩
set_option maxRecDepth 100000 in
set_option maxHeartbeats 2000000 in
theorem flags1_bad (hu : u ≤ 4294967295) (x : MI) (hG : G u = some (msV x)) (hs : Strp s b 1 W) (hB : FlB bu bo bf ba bc u mo f 0 7 W) (hM : MapV W b c G c) (hxf : x.f < 256) (hf : f < 256) (hm1 : -9223372036854775808 ≤ mo) (hm2 : mo ≤ 9223372036854775807) (hch : changeO x.f mo f = none) (h1 : ba ≠ bc) :
    Calls Tryz.prog 76 #[.pointer (some ⟨s, 0, none⟩), .pointer (some ⟨bu, 0, none⟩), .pointer (some ⟨bo, 0, none⟩), .pointer (some ⟨bf, 0, none⟩), .pointer (some ⟨ba, 0, none⟩), .pointer (some ⟨bc, 0, none⟩)] W fun e w' => e = .returned (.tuple #[]) ∧ KeptO (fun k => k = ba ∨ k = bc) W w' ∧ Vb w' ba 32 (.int .u8 0) ∧ Vb w' bc 29 (.int .i64 2) := by
  have hlk := Lib.hid (fun W' (h : MapV W' b c G c) => h.look (t := 88) Tryz.underlying88 (zeroM _) hu)
  have hl0 := hlk.out W.drew hM
  have hl1 := hlk.out (W.alloc (.cells #[.int .u32 0, .int .u8 0, .slice none 0 0] 52)).drew (show MapV (W.alloc _) b c G c from hM.below (below_al W _))
  rw [hG] at hl0 hl1
  simp only [Option.getD_some, Option.isSome_some] at hl0 hl1
  have c2 := hs.mp
  have l1 := hs.lt
  have d0 := hB.u.cell
  have l2 := hB.u.lt
  have B1 : Below W.heap.size W (W.alloc (.cells #[.int .u32 (x.u : Int), .int .u8 (x.f : Int), .slice x.A x.b.length x.k] 52)).drew := belowDraw (below_al W _)
  have M1 := Lib.hid (show M3 (W.alloc (.cells #[.int .u32 (x.u : Int), .int .u8 (x.f : Int), .slice x.A x.b.length x.k] 52)).drew W.heap.size x from M3.new rfl)
  have F1 := Lib.hid (hB.below B1)
  have HB1 := Lib.hid B1
  have CH := Lib.hid (fun W => by have := fchange_any x.f f hxf hf mo hm1 hm2 W; rw [hch] at this; simp only [Option.getD_none, Option.isSome_none] at this; exact this)
  clear hlk B1 hB hG hch
  unfold msV at hl0 hl1
  go_enter Tryz.func76, Tryz.ntmps76
  go_upto_region 0 with (fail)
  go_region
  all_goals
    clear hl0 hl1 c2 d0 l1 l2 hs hM
    generalize World.drew _ = W1 at *
    obtain ⟨-, m1, -⟩ := M1.out.cells
    have o0 := F1.out.o.cell
    have f0 := F1.out.f.cell
    go_wp2_with fail
    refine (CH.out _).mono ?_
    rintro e w2 ⟨rfl, hb⟩
    have F2 := Lib.hid (F1.out.below hb)
    have a0 := F2.out.a.cell
    have a1 := F2.out.a.fz
    have c0 := F2.out.c.cell
    have c1 := F2.out.c.fz
    have HK := Lib.hid ((KeptO.of_below (S := fun k => k = ba ∨ k = bc) HB1.out).then_below hb)
    clear hb m1 o0 f0 CH F1 M1 HB1
    go_wp2_with fail
    refine bodyPost_ret (results_none rfl _ _ _) rfl ?_
    exact ⟨rfl, (HK.out.trans ((KeptO.set _ ba 0 _).mono (S' := fun k => k = ba ∨ k = bc) fun k e => .inl e) fun _ e => .inl e).trans ((KeptO.set _ bc 0 _).mono (S' := fun k => k = ba ∨ k = bc) fun k e => .inr e) fun _ e => .inl e, (F2.out.a.set _).kept (KeptO.set _ bc 0 _) h1, (F2.out.c.kept (KeptO.set _ ba 0 _) fun e => h1 e.symm).set _⟩
set_option maxRecDepth 100000 in
set_option maxHeartbeats 4000000 in
theorem flags1_ok (hu : u ≤ 4294967295) (x : MI) (hG : G u = some (msV x)) (hs : Strp s b 1 W) (hB : FlB bu bo bf ba bc u mo f 0 7 W) (hM : MapV W b c G c) (hc : c < 1000000) (hxf : x.f < 256) (hf : f < 256) (hm1 : -9223372036854775808 ≤ mo) (hm2 : mo ≤ 9223372036854775807) (y : Nat) (hch : changeO x.f mo f = some y)
    (h1 : ba ≠ bc) (h2 : b ≠ ba) (h3 : b ≠ bc) (h4 : s ≠ ba) (h5 : bu ≠ ba) :
    Calls Tryz.prog 76 #[.pointer (some ⟨s, 0, none⟩), .pointer (some ⟨bu, 0, none⟩), .pointer (some ⟨bo, 0, none⟩), .pointer (some ⟨bf, 0, none⟩), .pointer (some ⟨ba, 0, none⟩), .pointer (some ⟨bc, 0, none⟩)] W fun e w' => e = .returned (.tuple #[]) ∧ KeptO (fun k => (k = ba ∨ k = bc) ∨ k = b) W w' ∧ Vb w' ba 32 (.int .u8 (y : Int)) ∧ Vb w' bc 29 (.int .i64 0) ∧ ∃ c, MapV w' b c (fun v => if v = u then some (msV { x with f := y }) else G v) c := by
  have hlk := Lib.hid (fun W' (h : MapV W' b c G c) => h.look (t := 88) Tryz.underlying88 (zeroM _) hu)
  have hl0 := hlk.out W.drew hM
  have hl1 := hlk.out (W.alloc (.cells #[.int .u32 0, .int .u8 0, .slice none 0 0] 52)).drew (show MapV (W.alloc _) b c G c from hM.below (below_al W _))
  rw [hG] at hl0 hl1
  simp only [Option.getD_some, Option.isSome_some] at hl0 hl1
  have c2 := hs.mp
  have l1 := hs.lt
  have d0 := hB.u.cell
  have l2 := hB.u.lt
  have B1 : Below W.heap.size W (W.alloc (.cells #[.int .u32 (x.u : Int), .int .u8 (x.f : Int), .slice x.A x.b.length x.k] 52)).drew := belowDraw (below_al W _)
  have M1 := Lib.hid (show M3 (W.alloc (.cells #[.int .u32 (x.u : Int), .int .u8 (x.f : Int), .slice x.A x.b.length x.k] 52)).drew W.heap.size x from M3.new rfl)
  have F1 := Lib.hid (hB.below B1)
  have S1 := Lib.hid (hs.at_ (B1.block s hs.lt))
  have V1 := Lib.hid (hM.below B1)
  have lu := hB.u.lt
  have CH := Lib.hid (fun W => by have := fchange_any x.f f hxf hf mo hm1 hm2 W; rw [hch] at this; simp only [Option.getD_some, Option.isSome_some] at this; exact this)
  have hqz := B1.size
  have HK1 := Lib.hid (KeptO.of_below (S := fun k => (k = ba ∨ k = bc) ∨ k = b) B1)
  have lb := hM.lt
  have la := hB.a.lt
  have lc := hB.c.lt
  clear hlk B1 hB hG hch
  unfold msV at hl0 hl1
  go_enter Tryz.func76, Tryz.ntmps76
  go_upto_region 0 with (fail)
  go_region
  all_goals
    clear hl0 hl1 c2 d0 hs hM
    generalize hq : W.heap.size = q at l1 l2 lb la lc lu M1 hqz ⊢
    have hqW := Lib.hid (Nat.le_of_eq hq)
    clear hq
    generalize World.drew _ = W1 at *
    obtain ⟨-, m1, -⟩ := M1.out.cells
    have o0 := F1.out.o.cell
    have f0 := F1.out.f.cell
    go_wp2_with fail
    refine (CH.out _).mono ?_
    rintro e w2 ⟨rfl, hb⟩
    have F2 := Lib.hid (F1.out.below hb)
    have a0 := F2.out.a.cell
    have a1 := F2.out.a.fz
    have c0 := F2.out.c.cell
    have c1 := F2.out.c.fz
    have M2 := M1.out.below hb
    obtain ⟨m0, m1', m2⟩ := M2.cells
    have e1 := M2.fz 1
    have hqa : q ≠ ba := by omega
    have hqc : q ≠ bc := by omega
    have hqs : q ≠ s := by omega
    have hqu : q ≠ bu := by omega
    have hqb : q ≠ b := by omega
    have KA := KeptO.set w2 ba 0 (.int .u8 (y : Int))
    have KB := KeptO.set (w2.setCell ⟨ba, 0, none⟩ (.int .u8 (y : Int))) q 1 (.int .u8 (y : Int))
    have M4 := (M2.kept KA hqa).st1 y
    have A4 := Lib.hid ((F2.out.a.set (.int .u8 (y : Int))).kept KB fun e => hqa e.symm)
    have C4 := Lib.hid ((F2.out.c.kept KA fun e => h1 e.symm).kept KB fun e => hqc e.symm)
    have U4 := ((F2.out.u.kept KA h5).kept KB fun e => hqu e.symm).cell
    have S4 := (((S1.out.at_ (hb.block s S1.out.lt)).kept KA h4).kept KB fun e => hqs e.symm).mp
    have V2 := V1.out.below hb
    have V4 := ((V2.at_ (KA.block b V2.lt h2)).at_ (KB.block b (by simpa using V2.lt) fun e => hqb e.symm))
    have K4 := ((HK1.out.then_below hb).trans (KA.mono (S' := fun k => (k = ba ∨ k = bc) ∨ k = b) fun k e => .inl (.inl e)) fun _ e => .inl e)
    have K5 := Lib.hid (K4.trans (KB.mono (S' := fun k => ((k = ba ∨ k = bc) ∨ k = b) ∨ k = q) fun k e => .inr e) (by
      rintro j (e | e)
      · exact .inl e
      · right
        rw [e]
        exact hqW.out))
    clear hb V2 K4 CH F1 M1 S1 V1 HK1 o0 f0 m1 M2
    go_upto_region 6 with (fail)
    clear KA KB F2 a0 a1 c0 c1 m0 m1' m2 e1
    generalize World.setCell (World.setCell _ _ _) _ _ = w3 at *
    obtain ⟨f0, f1, f2⟩ := M4.cells
    obtain ⟨w4, hrun, V5, G5⟩ := (show MapV w3.drew b c G c from V4).store (t := 88) Tryz.underlying88 (by unfold maxLen; omega) hu (msV { x with f := y })
    unfold msV at hrun
    have HV := Lib.hid V5
    have HG := Lib.hid (grown_undrew G5)
    have HA := Lib.hid (show Vb w4 ba 32 (.int .u8 (y : Int)) from (G5.block ba A4.out.lt (by simpa using fun e => h2 e.symm)).trans A4.out)
    have HC := show Vb w4 bc 29 (.int .i64 7) from (G5.block bc C4.out.lt (by simpa using fun e => h3 e.symm)).trans C4.out
    have q0 := HC.cell
    have q1 := HC.fz
    have HCC := Lib.hid HC
    clear V5 G5 V4 A4 C4 M4 HC
    go_region
    all_goals
      go_wp2_with fail
      go_end0
      refine ⟨rfl, ((K5.out.trans ((KeptO.of_grown (S := fun k => k = b) HG.out fun r hr => by cases hr; rfl).mono (S' := fun k => (k = ba ∨ k = bc) ∨ k = b) fun k e => .inr e) fun _ e => .inl e).trans ((KeptO.set _ bc 0 _).mono (S' := fun k => (k = ba ∨ k = bc) ∨ k = b) fun k e => .inl (.inr e)) fun _ e => .inl e), HA.out.kept (KeptO.set _ bc 0 _) h1, HCC.out.set _, _, (HV.out.at_ ((KeptO.set _ bc 0 _).block b HV.out.lt h3)).tight⟩
end
end Go.Proofs.YthdbbappojkmoaaGreat

namespace Go.Proofs.YthdbbappojkmoaaGreat
open Go.RowKit Go.Maps

theorem changeO_le {a b x : Nat} {m : Int} (h : changeO a m b = some x) : x ≤ 31 := by
  unfold changeO at h
  split at h
  · cases h
  · rename_i hn
    split at h
    · injection h with h; omega
    · split at h
      · injection h with h
        have := Nat.or_lt_two_pow (x := a) (y := b) (n := 5) (by omega) (by omega)
        omega
      · split at h
        · injection h with h
          have := Nat.and_le_left (n := a) (m := 255 - b)
          omega
        · cases h
/-- What Flags gives: the messages, the flags, the code. -/
def flM (l : List MI) (u : Nat) (mo : Int) (f : Nat) : List MI × Int × Int :=
  if h : (fdI l u).toNat < l.length ∧ 0 ≤ fdI l u then (match changeO (l[(fdI l u).toNat]'h.1).f mo f with | some x => (l.set (fdI l u).toNat { (l[(fdI l u).toNat]'h.1) with f := x }, (x : Int), 0) | none => (l, 0, 2)) else (l, 0, 7)
theorem flM_none {l : List MI} {u : Nat} (mo : Int) (f : Nat) (h : fdI l u = -1) : flM l u mo f = (l, 0, 7) := by
  unfold flM
  rw [dif_neg]
  rw [h]
  omega
theorem flM_some {l : List MI} {u k : Nat} (mo : Int) (f : Nat) (hk : k < l.length) (h : fdI l u = (k : Int)) : flM l u mo f = (match changeO l[k].f mo f with | some x => (l.set k { l[k] with f := x }, (x : Int), 0) | none => (l, 0, 2)) := by
  unfold flM
  have ht : (fdI l u).toNat = k := by omega
  rw [dif_pos ⟨by omega, by omega⟩]
  simp only [ht]

section
variable {R : TR} {g n : Nat} {S S' : Nat → Prop} {X : Nat → Option MI} {w : World}
/-- What the closure leaves: the flags, the code; the table; nothing else but the stripe has changed. -/
def FlPo (R : TR) (g n : Nat) (S : Nat → Prop) (i ba bc : Nat) (X' : Nat → Option MI) (av cd : Int) (w : World) (e : Ending) (w' : World) : Prop :=
  e = .returned (.tuple #[]) ∧ Vb w' ba 32 (.int .u8 av) ∧ Vb w' bc 29 (.int .i64 cd) ∧ TbX R g n S X' w' ∧ KeptO (fun k => ((k = ba ∨ k = bc) ∨ k = R.bb i) ∨ k = R.ss i) w w'
section
variable (h : TbX R g n S X w) (u i : Nat) (mo : Int) (f : Nat) (hu : u ≤ 4294967295) (hi : u % n = i) (bu bo bf ba bc : Nat) (hB : FlB bu bo bf ba bc u mo f 0 7 w) (nu : ¬ S bu) (no : ¬ S bo) (nf : ¬ S bf) (na : ¬ S ba) (nc : ¬ S bc)
include h hu hi hB nu no nf na nc
theorem flags_in_none (hx : X u = none) :
    Calls Tryz.prog 64 #[.pointer (some ⟨g, 0, none⟩), .int .u32 u, .func (.func 76) #[] #[.pointer (some ⟨bu, 0, none⟩), .pointer (some ⟨bo, 0, none⟩), .pointer (some ⟨bf, 0, none⟩), .pointer (some ⟨ba, 0, none⟩), .pointer (some ⟨bc, 0, none⟩)]] w (FlPo R g n S i ba bc X 0 7 w) := by
  have hin : i < n := by rw [← hi]; exact Nat.mod_lt _ h.hn.1
  have hs := h.Ks hin
  have hb := h.Kb hin
  have hsb : R.ss i ≠ R.bb i := h.sb _ _ hin hin
  have hsa : ∀ b, ¬ S b → ¬ b = R.ss i := fun b hn e => hn (e ▸ hs)
  obtain ⟨c, hc⟩ := h.mp i hin
  have hG : GX X n i u = none := by unfold GX; rw [if_pos hi, hx]; rfl
  refine (in_fr 76 _ h u i hu hi (fun args w => by simp [go_sem]) (fun _ => False) (fun e => e)
    (fun w' => FlB bu bo bf ba bc u mo f 0 7 w') (fun W hk hst => ?_) ?_).mono ?_
  · have hBW := hB.kept hk (hsa _ nu) (hsa _ no) (hsa _ nf) (hsa _ na) (hsa _ nc)
    refine (flags1_none (R.ss i) (R.bb i) bu bo bf ba bc c u f mo (GX X n i) W hu hG hst hBW (hc.at_ (hk.block _ hc.lt (fun e => hsb e.symm)))).mono ?_
    rintro e w' ⟨rfl, hb⟩
    exact ⟨rfl, KeptO.of_below hb, hBW.below hb⟩
  · intro W k hlt
    exact k.kept (KeptO.set W (R.ss i) 0 _) (hsa _ nu) (hsa _ no) (hsa _ nf) (hsa _ na) (hsa _ nc)
  · rintro e w' ⟨rfl, k2, hst, hk⟩
    refine ⟨rfl, k2.a, k2.c, ?_, hk.mono fun k e => e.imp False.elim id⟩
    refine h.change i hin hk (fun k e j2 => e.elim False.elim .inl) hst ⟨c, hc.at_ (hk.block _ hc.lt fun e => e.elim id fun e => hsb e.symm)⟩ (fun v hv => rfl) (fun _ => id) (fun k hk2 => Nat.lt_of_lt_of_le (h.lt k hk2) hk.size) fun v x hx => h.body hk (fun k e j2 => ?_) hx
    rcases e with e | e
    · exact e.elim
    · exact .inr (.inr ⟨i, hin, .inl e⟩)
theorem flags_in_bad (hac : ba ≠ bc) (x : MI) (hx : X u = some x) (hxf : x.f < 256) (hf : f < 256) (hm1 : -9223372036854775808 ≤ mo) (hm2 : mo ≤ 9223372036854775807) (hch : changeO x.f mo f = none) :
    Calls Tryz.prog 64 #[.pointer (some ⟨g, 0, none⟩), .int .u32 u, .func (.func 76) #[] #[.pointer (some ⟨bu, 0, none⟩), .pointer (some ⟨bo, 0, none⟩), .pointer (some ⟨bf, 0, none⟩), .pointer (some ⟨ba, 0, none⟩), .pointer (some ⟨bc, 0, none⟩)]] w (FlPo R g n S i ba bc X 0 2 w) := by
  have hin : i < n := by rw [← hi]; exact Nat.mod_lt _ h.hn.1
  have hs := h.Ks hin
  have hb := h.Kb hin
  have hsb : R.ss i ≠ R.bb i := h.sb _ _ hin hin
  have hsa : ∀ b, ¬ S b → ¬ b = R.ss i := fun b hn e => hn (e ▸ hs)
  obtain ⟨c, hc⟩ := h.mp i hin
  have hG : GX X n i u = some (msV x) := by unfold GX; rw [if_pos hi, hx]; rfl
  refine (in_fr 76 _ h u i hu hi (fun args w => by simp [go_sem]) (fun k => k = ba ∨ k = bc) (fun e => e.elim (fun e => hsa _ na e.symm) fun e => hsa _ nc e.symm)
    (fun w' => Vb w' ba 32 (.int .u8 0) ∧ Vb w' bc 29 (.int .i64 2)) (fun W hk hst => ?_) ?_).mono ?_
  · have hBW := hB.kept hk (hsa _ nu) (hsa _ no) (hsa _ nf) (hsa _ na) (hsa _ nc)
    exact flags1_bad (R.ss i) (R.bb i) bu bo bf ba bc c u f mo (GX X n i) W hu x hG hst hBW (hc.at_ (hk.block _ hc.lt (fun e => hsb e.symm))) hxf hf hm1 hm2 hch hac
  · rintro W ⟨k1, k2⟩ hlt
    exact ⟨k1.kept (KeptO.set W (R.ss i) 0 _) (hsa _ na), k2.kept (KeptO.set W (R.ss i) 0 _) (hsa _ nc)⟩
  · rintro e w' ⟨rfl, ⟨k1, k2⟩, hst, hk⟩
    refine ⟨rfl, k1, k2, ?_, hk.mono fun k e => e.imp .inl id⟩
    refine h.change i hin hk ?_ hst ⟨c, hc.at_ (hk.block _ hc.lt ?_)⟩ (fun v hv => rfl) (fun _ => id) (fun k hk2 => Nat.lt_of_lt_of_le (h.lt k hk2) hk.size) fun v x hx => h.body hk ?_ hx
    · rintro k ((rfl | rfl) | rfl) j2
      · exact absurd j2 na
      · exact absurd j2 nc
      · exact .inl rfl
    · rintro ((e | e) | e)
      · exact na (e ▸ hb)
      · exact nc (e ▸ hb)
      · exact hsb e.symm
    · rintro k ((rfl | rfl) | rfl) j2
      · exact absurd j2 na
      · exact absurd j2 nc
      · exact .inr (.inr ⟨i, hin, .inl rfl⟩)
theorem flags_in_ok (hac : ba ≠ bc) (hua : bu ≠ ba) (x : MI) (hx : X u = some x) (hc : ∃ c, c < 1000000 ∧ MapV w (R.bb i) c (GX X n i) c) (hxf : x.f < 256) (hf : f < 256) (hm1 : -9223372036854775808 ≤ mo) (hm2 : mo ≤ 9223372036854775807) (y : Nat) (hch : changeO x.f mo f = some y) :
    Calls Tryz.prog 64 #[.pointer (some ⟨g, 0, none⟩), .int .u32 u, .func (.func 76) #[] #[.pointer (some ⟨bu, 0, none⟩), .pointer (some ⟨bo, 0, none⟩), .pointer (some ⟨bf, 0, none⟩), .pointer (some ⟨ba, 0, none⟩), .pointer (some ⟨bc, 0, none⟩)]] w (FlPo R g n S i ba bc (putX X { x with f := y }) (y : Int) 0 w) := by
  have hin : i < n := by rw [← hi]; exact Nat.mod_lt _ h.hn.1
  have hs := h.Ks hin
  have hb := h.Kb hin
  have hsb : R.ss i ≠ R.bb i := h.sb _ _ hin hin
  have hsa : ∀ b, ¬ S b → ¬ b = R.ss i := fun b hn e => hn (e ▸ hs)
  have hxu : x.u = u := (h.bd u x hx).1
  obtain ⟨c, hc1, hc⟩ := hc
  have hG : GX X n i u = some (msV x) := by unfold GX; rw [if_pos hi, hx]; rfl
  refine (in_fr 76 _ h u i hu hi (fun args w => by simp [go_sem]) (fun k => (k = ba ∨ k = bc) ∨ k = R.bb i) (fun e => e.elim (fun e => e.elim (fun e => hsa _ na e.symm) fun e => hsa _ nc e.symm) hsb)
    (fun w' => Vb w' ba 32 (.int .u8 (y : Int)) ∧ Vb w' bc 29 (.int .i64 0) ∧ ∃ c, MapV w' (R.bb i) c (fun v => if v = u then some (msV { x with f := y }) else GX X n i v) c) (fun W hk hst => ?_) ?_).mono ?_
  · have hBW := hB.kept hk (hsa _ nu) (hsa _ no) (hsa _ nf) (hsa _ na) (hsa _ nc)
    exact flags1_ok (R.ss i) (R.bb i) bu bo bf ba bc c u f mo (GX X n i) W hu x hG hst hBW (hc.at_ (hk.block _ hc.lt (fun e => hsb e.symm))) hc1 hxf hf hm1 hm2 y hch hac (fun e => na (e ▸ hb)) (fun e => nc (e ▸ hb)) (fun e => hsa _ na e.symm) hua
  · rintro W ⟨k1, k2, c, k3⟩ hlt
    exact ⟨k1.kept (KeptO.set W (R.ss i) 0 _) (hsa _ na), k2.kept (KeptO.set W (R.ss i) 0 _) (hsa _ nc), c, k3.at_ ((KeptO.set W (R.ss i) 0 _).block _ k3.lt fun e => hsb e.symm)⟩
  · rintro e w' ⟨rfl, ⟨k1, k2, c2, k4⟩, hst, hk⟩
    have hKK : ∀ k, ((k = ba ∨ k = bc) ∨ k = R.bb i) ∨ k = R.ss i → S k → R.K g n k := by
      rintro k (((rfl | rfl) | rfl) | rfl) j2
      · exact absurd j2 na
      · exact absurd j2 nc
      · exact .inr (.inr ⟨i, hin, .inr rfl⟩)
      · exact .inr (.inr ⟨i, hin, .inl rfl⟩)
    refine ⟨rfl, k1, k2, ?_, hk⟩
    refine h.change i hin hk ?_ hst ⟨c2, k4.congr fun v _ => ?_⟩ (fun v hv => ?_) (fun _ => id) (fun k hk2 => Nat.lt_of_lt_of_le (h.lt k hk2) hk.size) fun v x2 hx2 => ?_
    · rintro k (((rfl | rfl) | rfl) | rfl) j2
      · exact absurd j2 na
      · exact absurd j2 nc
      · exact .inr rfl
      · exact .inl rfl
    · unfold GX putX
      by_cases e : v = u
      · subst e
        rw [if_pos hi, if_pos rfl, if_pos hxu.symm]
        rfl
      · rw [if_neg e]
        simp only [hxu, if_neg e]
    · unfold putX
      rw [if_neg]
      intro e
      rw [e] at hv
      exact hv (by rw [show ({ x with f := y } : MI).u = u from hxu]; exact hi)
    · unfold putX at hx2
      split at hx2
      · rename_i e
        injection hx2 with hx2
        subst hx2
        obtain ⟨j1, j2, j3⟩ := h.body hk hKK hx
        exact ⟨e.symm, j2, j3⟩
      · exact h.body hk hKK hx2
end
end
end Go.Proofs.YthdbbappojkmoaaGreat

namespace Go.Proofs.YthdbbappojkmoaaGreat
open Go.RowKit Go.Maps

theorem five_new (w : World) (u f : Nat) (mo : Int) (W : World) (hW : W = (((((w.alloc (.cells #[.int .u32 (u : Int)] 27)).alloc (.cells #[.int .i64 mo] 3)).alloc (.cells #[.int .u8 (f : Int)] 32)).alloc (.cells #[.int .i64 7] 29)).alloc (.cells #[.int .u8 0] 32))) :
    FlB w.heap.size (w.heap.size + 1) (w.heap.size + 1 + 1) (w.heap.size + 1 + 1 + 1 + 1) (w.heap.size + 1 + 1 + 1) u mo f 0 7 W ∧ Below w.heap.size w W := by
  subst hW
  have b0 := below_al w (.cells #[.int .u32 (u : Int)] 27)
  have z0 : (w.alloc (.cells #[.int .u32 (u : Int)] 27)).heap.size = w.heap.size + 1 := by simp
  have x0 := Vb.new w 27 (.int .u32 (u : Int))
  generalize w.alloc (.cells #[.int .u32 (u : Int)] 27) = w1 at *
  have b1 := below_al w1 (.cells #[.int .i64 mo] 3)
  have z1 : (w1.alloc (.cells #[.int .i64 mo] 3)).heap.size = w1.heap.size + 1 := by simp
  have x1 := Vb.new w1 3 (.int .i64 mo)
  generalize w1.alloc (.cells #[.int .i64 mo] 3) = w2 at *
  have b2 := below_al w2 (.cells #[.int .u8 (f : Int)] 32)
  have z2 : (w2.alloc (.cells #[.int .u8 (f : Int)] 32)).heap.size = w2.heap.size + 1 := by simp
  have x2 := Vb.new w2 32 (.int .u8 (f : Int))
  generalize w2.alloc (.cells #[.int .u8 (f : Int)] 32) = w3 at *
  have b3 := below_al w3 (.cells #[.int .i64 7] 29)
  have z3 : (w3.alloc (.cells #[.int .i64 7] 29)).heap.size = w3.heap.size + 1 := by simp
  have x3 := Vb.new w3 29 (.int .i64 7)
  generalize w3.alloc (.cells #[.int .i64 7] 29) = w4 at *
  have b4 := below_al w4 (.cells #[.int .u8 0] 32)
  have x4 := Vb.new w4 32 (.int .u8 0)
  generalize w4.alloc (.cells #[.int .u8 0] 32) = w5 at *
  rw [z0] at x1
  rw [z1, z0] at x2
  rw [z2, z1, z0] at x3
  rw [z3, z2, z1, z0] at x4
  exact ⟨⟨(((x0.below b1).below b2).below b3).below b4, ((x1.below b2).below b3).below b4, (x2.below b3).below b4, x4, x3.below b4⟩, below_next b0 (below_next b1 (below_next b2 (below_next b3 b4)))⟩
section
variable {g : Nat} {w : World}
set_option maxRecDepth 100000 in
set_option maxHeartbeats 2000000 in
theorem flags_go (u f : Nat) (mo av cd : Int) (Q : World → Prop)
    (hc : ∀ W, W = (((((w.alloc (.cells #[.int .u32 (u : Int)] 27)).alloc (.cells #[.int .i64 mo] 3)).alloc (.cells #[.int .u8 (f : Int)] 32)).alloc (.cells #[.int .i64 7] 29)).alloc (.cells #[.int .u8 0] 32)) →
      Calls Tryz.prog 64 #[.pointer (some ⟨g, 0, none⟩), .int .u32 u, .func (.func 76) #[] #[.pointer (some ⟨w.heap.size, 0, none⟩), .pointer (some ⟨w.heap.size + 1, 0, none⟩), .pointer (some ⟨w.heap.size + 1 + 1, 0, none⟩), .pointer (some ⟨w.heap.size + 1 + 1 + 1 + 1, 0, none⟩), .pointer (some ⟨w.heap.size + 1 + 1 + 1, 0, none⟩)]] W fun e w' =>
        e = .returned (.tuple #[]) ∧ Vb w' (w.heap.size + 1 + 1 + 1 + 1) 32 (.int .u8 av) ∧ Vb w' (w.heap.size + 1 + 1 + 1) 29 (.int .i64 cd) ∧ Q w') (hQ : ∀ W, Q W → Q W.drew) :
    Calls Tryz.prog 58 #[.pointer (some ⟨g, 0, none⟩), .int .u32 u, .int .i64 mo, .int .u8 f] w fun e w' => e = .returned (.tuple #[.int .u8 av, .int .i64 cd]) ∧ Q w' := by
  have HC := Lib.hid hc
  have HQ := Lib.hid hQ
  clear hc hQ
  go_enter Tryz.func58, Tryz.ntmps58
  go_wp2_with fail
  refine (HC.out _ rfl).mono ?_
  rintro e w1 ⟨rfl, k1, k2, k3⟩
  have c0 := k1.cell
  have c1 := k2.cell
  have HK := Lib.hid (HQ.out _ k3)
  clear k1 k2 k3 HC HQ
  go_upto_region 6 with (fail)
  go_region
  all_goals
    go_wp2_with fail
    go_ret2
    exact ⟨rfl, HK.out⟩
set_option maxRecDepth 100000 in
theorem tflags_nil (u : Nat) (mo : Int) (f : Nat) (w : World) : Calls Tryz.prog 58 #[.pointer none, .int .u32 u, .int .i64 mo, .int .u8 f] w fun e w' => e = .returned (.tuple #[.int .u8 0, .int .i64 1]) ∧ Below w.heap.size w w' := by
  go_enter Tryz.func58, Tryz.ntmps58
  go_wp2_with fail
  go_ret2
  exact ⟨rfl, below_next (below_al _ _) (below_next (below_al _ _) (below_al _ _))⟩
end
end Go.Proofs.YthdbbappojkmoaaGreat

namespace Go.Proofs.YthdbbappojkmoaaGreat
open Go.RowKit Go.Maps

section
variable {g n : Nat} {S : Nat → Prop} {L : List MI} {w : World}
theorem Like.zero {X : Nat → Option MI} (h : Like X L) (u : Nat) : keyM ((X u).getD msZ) = keyM ((getM L u).getD ⟨0, 0, none, 0, []⟩) := by
  have := h u
  cases hx : X u with
  | none =>
    rw [hx] at this
    cases hg : getM L u with
    | none => rfl
    | some y =>
      rw [hg] at this
      cases this
  | some x =>
    rw [hx] at this
    cases hg : getM L u with
    | none =>
      rw [hg] at this
      cases this
    | some y =>
      rw [hg] at this
      exact Option.some.inj this
theorem sameM_key {a b : MI} (h : keyM a = keyM b) : sameM a b = true := by
  unfold keyM at h
  injection h with h1 h2
  injection h2 with h2 h3
  exact sameM_iff.2 ⟨h1, h2, h3⟩
theorem Like.len {X : Nat → Option MI} (h : Like X L) (hG : GoodM L) (u : Nat) : ((X u).getD msZ).b.length ≤ 65536 := by
  have e : ((X u).getD msZ).b = ((getM L u).getD ⟨0, 0, none, 0, []⟩).b := congrArg (fun x => x.2.2) (h.zero u)
  rw [e]
  cases hg : getM L u with
  | none => exact Nat.zero_le _
  | some y => exact (hG.ok y (getM_mem hg)).2.2.2
theorem tget_any (u : Nat) (hu : u ≤ 4294967295) (h : Tb g n S L w) (_ : L.length ≤ 100000) :
    Calls Tryz.prog 43 #[.pointer (some ⟨g, 0, none⟩), .int .u32 u] w fun e w' => ∃ (x : MI) (S' : Nat → Prop), e = .returned (.tuple #[msV x, .bool (getM L u).isSome]) ∧
      sameM x ((getM L u).getD ⟨0, 0, none, 0, []⟩) = true ∧ w'.ownsRow w.heap.size 5 1 (.slice x.A x.b.length x.k) x.b.length (flatL encB x.b) ∧ Out S' x.A ∧ Tb g n S' L w' ∧ More S S' w ∧ KeptO S w w' := by
  obtain ⟨hG, R, X, hX, hL⟩ := h
  refine (get_go hX u hu (hL.len hG u)).mono ?_
  rintro e w' ⟨y, rfl, k1, k2, k3, k4⟩
  refine ⟨y, S, by rw [hL.isSome], sameM_key (k1.trans (hL.zero u)), k2, own_out k2 hX.lt, ⟨hG, R, X, k3, hL⟩, More.refl _ _, k4⟩
theorem tflags_any (u : Nat) (mo : Int) (f : Nat) (hu : u ≤ 4294967295) (hm1 : -9223372036854775808 ≤ mo) (hm2 : mo ≤ 9223372036854775807) (hf : f ≤ 255) (h : Tb g n S L w) (hl : L.length ≤ 100000) :
    Calls Tryz.prog 58 #[.pointer (some ⟨g, 0, none⟩), .int .u32 u, .int .i64 mo, .int .u8 f] w fun e w' => ∃ S', e = .returned (.tuple #[.int .u8 (flM L u mo f).2.1, .int .i64 (flM L u mo f).2.2]) ∧ Tb g n S' (flM L u mo f).1 w' ∧ More S S' w ∧ KeptO S w w' := by
  obtain ⟨hG, R, X, hX, hL⟩ := h
  have hS : ∀ k, w.heap.size ≤ k → ¬ S k := fun k h1 h2 => by have := hX.lt k h2; omega
  have hin : u % n < n := Nat.mod_lt _ hX.hn.1
  have key : ∀ (X' : Nat → Option MI) (av cd : Int) (L' : List MI), GoodM L' → Like X' L' → flM L u mo f = (L', av, cd) →
      (∀ W, FlB w.heap.size (w.heap.size + 1) (w.heap.size + 1 + 1) (w.heap.size + 1 + 1 + 1 + 1) (w.heap.size + 1 + 1 + 1) u mo f 0 7 W → Below w.heap.size w W → TbX R g n S X W → Calls Tryz.prog 64 #[.pointer (some ⟨g, 0, none⟩), .int .u32 u, .func (.func 76) #[] #[.pointer (some ⟨w.heap.size, 0, none⟩), .pointer (some ⟨w.heap.size + 1, 0, none⟩), .pointer (some ⟨w.heap.size + 1 + 1, 0, none⟩), .pointer (some ⟨w.heap.size + 1 + 1 + 1 + 1, 0, none⟩), .pointer (some ⟨w.heap.size + 1 + 1 + 1, 0, none⟩)]] W
        (FlPo R g n S (u % n) (w.heap.size + 1 + 1 + 1 + 1) (w.heap.size + 1 + 1 + 1) X' av cd W)) →
      Calls Tryz.prog 58 #[.pointer (some ⟨g, 0, none⟩), .int .u32 u, .int .i64 mo, .int .u8 f] w fun e w' => ∃ S', e = .returned (.tuple #[.int .u8 (flM L u mo f).2.1, .int .i64 (flM L u mo f).2.2]) ∧ Tb g n S' (flM L u mo f).1 w' ∧ More S S' w ∧ KeptO S w w' := by
    intro X' av cd L' hG' hL' he hC
    rw [he]
    refine (flags_go u f mo av cd (fun w' => TbX R g n S X' w' ∧ KeptO S w w') (fun W hW => ?_) (fun W hW => ⟨hW.1.below (below_drew 1), hW.2.drew⟩)).mono ?_
    · obtain ⟨hB, hb⟩ := five_new w u f mo W hW
      refine (hC W hB hb (hX.below hb)).mono ?_
      rintro e w' ⟨rfl, k1, k2, k3, k4⟩
      refine ⟨rfl, k1, k2, k3, (KeptO.of_below (S := S) hb).trans k4 ?_⟩
      rintro j (((e | e) | e) | e)
      · right; omega
      · right; omega
      · exact .inl (e ▸ hX.Kb hin)
      · exact .inl (e ▸ hX.Ks hin)
    · rintro e w' ⟨rfl, k1, k2⟩
      exact ⟨S, rfl, ⟨hG', R, X', k1, hL'⟩, More.refl _ _, k2⟩
  rcases fdI_get L u with ⟨h1, h2⟩ | ⟨k, hk, h1, h2, h3⟩
  · have hx : X u = none := by
      have := hL.isSome u
      rw [h2] at this
      cases hx : X u with
      | none => rfl
      | some x => rw [hx] at this; cases this
    exact key X 0 7 L hG hL (flM_none mo f h1) fun W hB hb hXW => flags_in_none hXW u (u % n) mo f hu rfl _ _ _ _ _ hB (hS _ (by omega)) (hS _ (by omega)) (hS _ (by omega)) (hS _ (by omega)) (hS _ (by omega)) hx
  · have hsome := hL u
    rw [h2] at hsome
    cases hx : X u with
    | none =>
      rw [hx] at hsome
      cases hsome
    | some x =>
      rw [hx] at hsome
      have hkey : keyM x = keyM L[k] := Option.some.inj hsome
      have hxf : x.f = L[k].f := congrArg (fun y => y.2.1) hkey
      have hok := hG.ok L[k] (List.getElem_mem _)
      cases hch : changeO L[k].f mo f with
      | none =>
        have he := flM_some mo f hk h1
        rw [hch] at he
        exact key X 0 2 L hG hL he fun W hB hb hXW => flags_in_bad hXW u (u % n) mo f hu rfl _ _ _ _ _ hB (hS _ (by omega)) (hS _ (by omega)) (hS _ (by omega)) (hS _ (by omega)) (hS _ (by omega)) (by omega) x hx (by omega) (by omega) hm1 hm2 (by rw [hxf]; exact hch)
      | some y =>
        have hy := changeO_le hch
        have he := flM_some mo f hk h1
        rw [hch] at he
        have hsz : u % n < (szM L n).length := by rw [szM_len]; exact hin
        have hc := hX.cnt hL hG hin hsz
        have hcl := szM_le L n hsz
        generalize (szM L n)[u % n]'hsz = c at *
        refine key (putX X { x with f := y }) (y : Int) 0 (L.set k { L[k] with f := y }) (hG.set k y hk hy) (fun v => ?_) he fun W hB hb hXW => flags_in_ok hXW u (u % n) mo f hu rfl _ _ _ _ _ hB (hS _ (by omega)) (hS _ (by omega)) (hS _ (by omega)) (hS _ (by omega)) (hS _ (by omega)) (by omega) (by omega) x hx ⟨c, by omega, hc.below hb⟩ (by omega) (by omega) hm1 hm2 y (by rw [hxf]; exact hch)
        have hxu : x.u = L[k].u := congrArg (fun y => y.1) hkey
        rw [getM_set L k y hk (by rw [h3]; exact h1)]
        unfold putX
        by_cases e : v = L[k].u
        · rw [if_pos e, if_pos (e.trans hxu.symm)]
          show some (x.u, y, x.b) = some (L[k].u, y, L[k].b)
          rw [hxu, show x.b = L[k].b from congrArg (fun y => y.2.2) hkey]
        · rw [if_neg e, if_neg fun e2 => e (e2.trans hxu)]
          exact hL v
theorem tof_any (u : Nat) (hu : u ≤ 4294967295) (h : Tb g n S L w) : Calls Tryz.prog 83 #[.pointer (some ⟨g, 0, none⟩), .int .u32 u] w fun e w' => e = .returned (.int .i64 ((u % n : Nat) : Int)) ∧ Below w.heap.size w w' := by
  obtain ⟨hG, R, X, hX, hL⟩ := h
  refine (tof_eq hX u hu).mono ?_
  rintro e w' ⟨rfl, rfl⟩
  exact ⟨rfl, Below.refl _ _⟩
end
section
set_option maxRecDepth 100000 in
theorem tof_nil (u : Nat) (w : World) : Calls Tryz.prog 83 #[.pointer none, .int .u32 u] w fun e w' => e = .returned (.int .i64 0) ∧ Below w.heap.size w w' := by
  go_enter Tryz.func83, Tryz.ntmps83
  go_wp2_with fail
  go_ret
  exact ⟨rfl, Below.refl _ _⟩
set_option maxRecDepth 100000 in
theorem in_nil (u F : Nat) (cs : Array Value) (w : World) : Calls Tryz.prog 64 #[.pointer none, .int .u32 u, .func (.func F) #[] cs] w fun e w' => e = .returned (.tuple #[]) ∧ w = w' := by
  go_enter Tryz.func64, Tryz.ntmps64
  go_wp2_with fail
  go_end0
  exact ⟨rfl, rfl⟩
end
end Go.Proofs.YthdbbappojkmoaaGreat
