/- The table of layer 13: a function called with each stripe. -/
import Derived.Test.YthdbbappojkmoaaGreatHp
import Derived.Deep.RegionHeld3
import Derived.Deep.RegionLaw
import Derived.Deep.DrawnRows
import Derived.Test.YthdbbappojkmoaaGreatHs
import Derived.Deep.LoopGhost
import Derived.Test.YthdbbappojkmoaaGreatHj
namespace Go.Proofs.YthdbbappojkmoaaGreat
open Go.RowKit Go.Maps

section
variable {R : TR} {g n : Nat} {S : Nat → Prop} {X : Nat → Option MI} {w : World}
set_option maxRecDepth 100000 in
set_option maxHeartbeats 1000000 in
theorem each_any (F : Nat) (cs : Array Value) (h : TbX R g n S X w) (henter : ∀ args w, (callFunc F args).run Tryz.prog w = .ok (.enter F args) w) (P : Nat → World → Prop) (h0 : P 0 w) (hP : ∀ i W, P i W → TbX R g n S X W)
    (hact : ∀ i, i < n → ∀ W, P i W → Calls Tryz.prog F (#[.pointer (some ⟨R.ss i, 0, none⟩)] ++ cs) (W.setCell ⟨R.ss i, 0, none⟩ (.int .i32 1)) fun e w' => e = .returned (.tuple #[]) ∧ Strp (R.ss i) (R.bb i) 1 w' ∧ P (i + 1) (w'.setCell ⟨R.ss i, 0, none⟩ (.int .i32 0))) :
    Calls Tryz.prog 78 #[.pointer (some ⟨g, 0, none⟩), .func (.func F) #[] cs] w fun e w' => e = .returned (.tuple #[]) ∧ P n w' := by
  have hc := h.tc
  have hn16 := h.hn.2
  have LK := Lib.hid (fun i (hi : i < n) W (hW : P i W) => locked_any (R.ss i) (R.bb i) F cs W ((hP i W hW).st i hi) henter (P (i + 1)) (hact i hi W hW))
  have HR := Lib.hid (fun i (hi : i < n) W (hW : P i W) => (hP i W hW).row i hi)
  have H0 := Lib.hid h0
  clear hact henter h hP h0
  generalize R.r = r at *
  generalize R.cap = cap at *
  go_enter Tryz.func78, Tryz.ntmps78
  go_wp2_with fail
  go_loopw [13] (fun i wr => ∃ k : Nat, k ≤ n ∧ i = .int .i64 k ∧ Hid (P k wr)) (fun i _ => n - (intOf i).toNat)
  case atStart => exact ⟨0, Nat.zero_le _, rfl, H0⟩
  case round =>
    obtain ⟨k, hk, rfl, HP⟩ := hrel
    clear hc H0
    by_cases hlt : k < n
    · have hr := HR.out k hlt wr HP.out
      have hk0 : (0 : Int) ≤ (k : Int) := by omega
      have hk1 : (k : Int) < (n : Int) := by omega
      have L1 := Lib.hid (LK.out k hlt wr HP.out)
      generalize R.ss k = s at *
      clear LK HR
      go_wp2_with fail
      refine L1.out.mono ?_
      rintro e w2 ⟨rfl, h2⟩
      have H2 := Lib.hid h2
      clear h2 L1 hr HP
      go_wp2_with fail
      go_roundw
      case rel => exact ⟨k + 1, by omega, by go_num, H2⟩
      case measure => simp [intOf]; omega
    · obtain rfl : k = n := by omega
      go_wp2_with fail
      go_end0
      exact ⟨rfl, HP.out⟩
set_option maxRecDepth 100000 in
theorem each_nil (F : Nat) (cs : Array Value) (w : World) : Calls Tryz.prog 78 #[.pointer none, .func (.func F) #[] cs] w fun e w' => e = .returned (.tuple #[]) ∧ w = w' := by
  go_enter Tryz.func78, Tryz.ntmps78
  go_wp2_with fail
  refine bodyPost_ret (results_none rfl _ _ _) rfl ?_
  exact ⟨rfl, rfl⟩
end
end Go.Proofs.YthdbbappojkmoaaGreat

namespace Go.Proofs.YthdbbappojkmoaaGreat
open Go.RowKit Go.Maps

section
variable {R : TR} {g n : Nat} {S T : Nat → Prop} {X : Nat → Option MI} {w w' : World}
/-- A stripe locked and unlocked, nothing else of the table changed. -/
theorem TbX.again (i : Nat) (hi : i < n) (h : TbX R g n S X w) (hk : KeptO T w w') (hT : ∀ k, T k → S k → k = R.ss i) (hst : Strp (R.ss i) (R.bb i) 0 w') : TbX R g n S X w' := by
  obtain ⟨c, hc⟩ := h.mp i hi
  exact h.change i hi hk (fun k h1 h2 => .inl (hT k h1 h2)) hst ⟨c, hc.at_ (hk.block _ hc.lt fun e => h.sb _ _ hi hi (hT _ e (h.Kb hi)).symm)⟩ (fun _ _ => rfl) (fun _ => id) (fun k hk2 => Nat.lt_of_lt_of_le (h.lt k hk2) hk.size) fun u x hx => h.body hk (fun k h1 h2 => .inr (.inr ⟨i, hi, .inl (hT k h1 h2)⟩)) hx
end
end Go.Proofs.YthdbbappojkmoaaGreat

namespace Go.Proofs.YthdbbappojkmoaaGreat
open Go.RowKit Go.Maps

section
variable {w w' : World} {b r n c cnt : Nat} {G : Nat → Option Value} {left : Nat → Bool}
theorem MapR.at_ (h : MapR w b r n G c left cnt) (hb : w'.heap[b]? = w.heap[b]?) (hr : w'.heap[r]? = w.heap[r]?) : MapR w' b r n G c left cnt := by
  obtain ⟨D, L, ⟨es, clock, since, seen, c0, h1, h2, h3, h4, h5, h6⟩, h7⟩ := h
  exact ⟨D, L, ⟨es, clock, since, seen, c0, hb.trans h1, h2, h3, h4, hr.trans h5, h6⟩, h7⟩
theorem MapR.objs (h : MapR w b r n G c left cnt) : (∃ es clock, w.heap[b]? = some (.map es clock)) ∧ ∃ m since seen c0, w.heap[r]? = some (.mapIter m since seen c0) := by
  obtain ⟨D, L, ⟨es, clock, since, seen, c0, h1, h2, h3, h4, h5, h6⟩, h7⟩ := h
  exact ⟨⟨_, _, h1⟩, _, _, _, _, h5⟩
end
/-- The map has a message with these flags at u. -/
def HitG (G : Nat → Option Value) (f u : Nat) : Prop := ∃ x : MI, G u = some (msV x) ∧ x.f &&& f = f
/-- What is gathered: what was there, and what the range has met. -/
structure WI (G : Nat → Option Value) (f : Nat) (O0 : List Nat) (left : Nat → Bool) (O : List Nat) (cnt c : Nat) : Prop where
  nd : O.Nodup
  len : O.length + cnt ≤ O0.length + c
  mem : ∀ u, u ∈ O ↔ u ∈ O0 ∨ u ≤ 4294967295 ∧ left u = false ∧ HitG G f u
theorem WI.miss {G : Nat → Option Value} {f : Nat} {O0 O : List Nat} {left : Nat → Bool} {cnt cnt' c u : Nat} (h : WI G f O0 left O cnt c) (hc : cnt' < cnt) (hu : ¬ HitG G f u) : WI G f O0 (fun x => left x && !decide (x = u)) O cnt' c := by
  refine ⟨h.nd, by have := h.len; omega, fun v => (h.mem v).trans ?_⟩
  by_cases e : v = u
  · subst e
    exact ⟨fun h => h.imp id fun h => absurd h.2.2 hu, fun h => h.imp id fun h => absurd h.2.2 hu⟩
  · simp [e]
theorem WI.hit {G : Nat → Option Value} {f : Nat} {O0 O : List Nat} {left : Nat → Bool} {cnt cnt' c u : Nat} (h : WI G f O0 left O cnt c) (hc : cnt' < cnt) (hu : HitG G f u) (hu2 : u ≤ 4294967295) (hl : left u = true) (h1 : ∀ u ∈ O0, G u = none) : WI G f O0 (fun x => left x && !decide (x = u)) (O ++ [u]) cnt' c := by
  have h0 : u ∉ O0 := fun e => by
    obtain ⟨x, hx, _⟩ := hu
    rw [h1 u e] at hx
    cases hx
  refine ⟨?_, by have := h.len; rw [List.length_append, List.length_singleton]; omega, fun v => ?_⟩
  · rw [List.nodup_append]
    refine ⟨h.nd, by simp, fun a ha b hb e => ?_⟩
    rw [List.mem_singleton] at hb
    subst hb
    subst e
    rcases (h.mem a).1 ha with h2 | ⟨_, h2, _⟩
    · exact h0 h2
    · rw [hl] at h2
      cases h2
  · rw [List.mem_append, List.mem_singleton, h.mem v]
    by_cases e : v = u
    · subst e
      simp [hu, hu2]
    · simp [e]
/-- The range's memory. -/
structure WM (b r bf bl base f : Nat) (G : Nat → Option Value) (c : Nat) (left : Nat → Bool) (cnt : Nat) (O : List Nat) (v : Value) (W : World) : Prop where
  rg : MapR W b r c G c left cnt
  fb : Vb W bf 32 (.int .u8 (f : Int))
  lb : Vb W bl 28 v
  row : W.ownsRow base 27 1 v O.length (flatL encU O)
section
variable {b r bf bl base f c cnt cnt' : Nat} {G : Nat → Option Value} {left left' : Nat → Bool} {O : List Nat} {v : Value} {W W' : World}
theorem WM.next (h : WM b r bf bl base f G c left cnt O v W) (hr : MapR W' b r c G c left' cnt') (hg : W.grownBy W' (some r)) : WM b r bf bl base f G c left' cnt' O v W' := by
  obtain ⟨-, m, since, seen, c0, hit⟩ := h.rg.objs
  have hne : ∀ {k : Nat} {cs : Array Value} {T : TypeId} {fr : Nat × Nat}, W.heap[k]? = some (Obj.cells cs T fr) → some k ≠ some r := fun hk e => by
    injection e with e
    subst e
    rw [hit] at hk
    cases hk
  refine ⟨hr, (hg.block bf h.fb.lt (hne h.fb)).trans h.fb, (hg.block bl h.lb.lt (hne h.lb)).trans h.lb, h.row.kept hg ?_⟩
  by_cases e : v.ownBlock = none
  · exact .inl e
  · obtain ⟨k, hk⟩ := Option.ne_none_iff_exists'.1 e
    obtain ⟨cs, fr, h2⟩ := own_form h.row k hk
    exact .inr (by rw [hk]; exact hne h2)
theorem WM.below (h : WM b r bf bl base f G c left cnt O v W) (hb : Below W.heap.size W W') : WM b r bf bl base f G c left cnt O v W' :=
  ⟨h.rg.below hb, h.fb.below hb, h.lb.below hb, own_below h.row hb⟩
theorem WM.app {O' : List Nat} {v' : Value} (h : WM b r bf bl base f G c left cnt O v W) (hg : W.grownBy W' v.ownBlock) (ho : W'.ownsRow base 27 1 v' O'.length (flatL encU O')) (hne : bf ≠ bl) (hbl : bl < base) :
    Vb W' bl 28 v ∧ WM b r bf bl base f G c left cnt O' v' (W'.setCell ⟨bl, 0, none⟩ v') := by
  obtain ⟨⟨es, clock, hmp⟩, m, since, seen, c0, hit⟩ := h.rg.objs
  have q0 : W'.heap[b]? = W.heap[b]? := (append_out h.row hg hmp (by simp)).trans hmp.symm
  have q1 : W'.heap[r]? = W.heap[r]? := (append_out h.row hg hit (by simp)).trans hit.symm
  have q2 : Vb W' bf 32 (.int .u8 (f : Int)) := append_out h.row hg h.fb (by simp)
  have q3 : Vb W' bl 28 v := append_out h.row hg h.lb (by simp)
  have ks := KeptO.set W' bl 0 v'
  have r1 : W'.heap[b]? = some (.map es clock) := q0.trans hmp
  have r2 : W'.heap[r]? = some (.mapIter m since seen c0) := q1.trans hit
  have n1 : b ≠ bl := fun e => by
    subst e
    rw [q3] at r1
    cases r1
  have n2 : r ≠ bl := fun e => by
    subst e
    rw [q3] at r2
    cases r2
  exact ⟨q3, (h.rg.at_ q0 q1).at_ ((ks.heap r1 n1).trans r1.symm) ((ks.heap r2 n2).trans r2.symm), q2.kept ks hne, q3.set v', own_keptO ho ks fun k e => by subst e; exact hbl⟩
end
set_option maxRecDepth 100000 in
set_option maxHeartbeats 4000000 in
theorem with1_any (s b bf bl c base f : Nat) (hf : f < 256) (O0 : List Nat) (v : Value) (G : Nat → Option Value) (W : World) (hs : Strp s b 1 W) (hM : MapV W b c G c) (hF : Vb W bf 32 (.int .u8 (f : Int))) (hb : Vb W bl 28 v) (hown : W.ownsRow base 27 1 v O0.length (flatL encU O0))
    (hbl : bl < base) (hne : bf ≠ bl) (hbase : base ≤ W.heap.size) (hl : O0.length + c ≤ 1000000) (hG : ∀ u v, G u = some v → ∃ x : MI, v = msV x ∧ x.f < 256) (h0 : O0.Nodup) (h1 : ∀ u ∈ O0, G u = none) :
    Calls Tryz.prog 79 #[.pointer (some ⟨s, 0, none⟩), .pointer (some ⟨bf, 0, none⟩), .pointer (some ⟨bl, 0, none⟩)] W fun e w' => e = .returned (.tuple #[]) ∧ KeptO (fun k => k = bl ∨ base ≤ k) W w' ∧
      ∃ v' O, Vb w' bl 28 v' ∧ w'.ownsRow base 27 1 v' O.length (flatL encU O) ∧ O.Nodup ∧ O.length ≤ O0.length + c ∧ ∀ u, u ∈ O ↔ u ∈ O0 ∨ u ≤ 4294967295 ∧ HitG G f u := by
  obtain ⟨i0, hi, hz0, hz1, hz2⟩ := info_parts infoU
  obtain ⟨w0, hrun, hR0, hg0, hs0⟩ := hM.range (t := 88) Tryz.underlying88
  have c2 := hs.mp
  have HK0 := Lib.hid (KeptO.of_grown (S := fun k => k = bl ∨ base ≤ k) hg0 (fun r hr => by cases hr))
  have HM0 := Lib.hid (show WM b W.heap.size bf bl base f G c (fun u => (G u).isSome) c O0 v w0 from ⟨hR0, (hg0.block bf hF.lt (by simp)).trans hF, (hg0.block bl hb.lt (by simp)).trans hb, hown.kept hg0 (by
    by_cases e : v.ownBlock = none
    · exact .inl e
    · exact .inr e)⟩)
  have HI0 := Lib.hid (show WI G f O0 (fun u => (G u).isSome) O0 c c from ⟨h0, Nat.le_refl _, fun u => ⟨.inl, fun h => h.elim id fun ⟨_, h2, x, hx, _⟩ => by
    rw [hx] at h2
    cases h2⟩⟩)
  have hbs0 : base ≤ w0.heap.size := by omega
  have HG := Lib.hid hG
  have H1 := Lib.hid h1
  have hrb : base ≤ W.heap.size := hbase
  clear hs hM hR0 hg0 hs0 hF hb hown hG h1 h0 hbase
  go_enter Tryz.func79, Tryz.ntmps79
  go_wp2_with fail
  clear hrun c2
  generalize W.heap.size = r at *
  go_loopw [11] (fun _ wr => ∃ (left : Nat → Bool) (cnt : Nat) (O : List Nat) (v : Value), Hid (WM b r bf bl base f G c left cnt O v wr) ∧ Hid (WI G f O0 left O cnt c) ∧ Hid (KeptO (fun k => k = bl ∨ base ≤ k) W wr) ∧ base ≤ wr.heap.size) (fun _ wr => wr.rangeLeft b r)
  case atStart => exact ⟨_, _, _, _, HM0, HI0, HK0, hbs0⟩
  case round =>
    obtain ⟨left, cnt, O, v, HM, HI, HK, hbs⟩ := hrel
    clear HM0 HI0 HK0 hbs0
    rcases HM.out.rg.next 0 with ⟨hc, hall, hrun⟩ | ⟨u, x0, w1, cnt1, hu, hlu, hGu, hrun, hR1, hlt, hg1, hs1, hen⟩
    · have HH := Lib.hid hall
      clear hall hc
      go_wp2_with fail
      go_end0
      refine ⟨rfl, HK.out, v, O, HM.out.lb, HM.out.row, HI.out.nd, by have := HI.out.len; omega, fun u => (HI.out.mem u).trans ?_⟩
      exact ⟨fun h => h.imp id fun h => ⟨h.1, h.2.2⟩, fun h => h.imp id fun h => ⟨h.1, HH.out u h.1, h.2⟩⟩
    · obtain ⟨x, rfl, hxf⟩ := HG.out u x0 hGu
      have HM1 := Lib.hid (HM.out.next hR1 hg1)
      have hm0 := Lib.hid (HM.out.rg.left_eq)
      have hbs1 : base ≤ w1.heap.size := by omega
      have HK1 := Lib.hid (HK.out.trans (KeptO.of_grown (S := fun k => k = bl ∨ base ≤ k) hg1 fun k hk => by cases hk; exact .inr hrb) fun _ e => .inl e)
      have B2 := below_al w1 (.cells #[.int .u32 (x.u : Int), .int .u8 (x.f : Int), .slice x.A x.b.length x.k] 52)
      have HB2 := Lib.hid B2
      have M2 := Lib.hid (show M3 (w1.alloc (.cells #[.int .u32 (x.u : Int), .int .u8 (x.f : Int), .slice x.A x.b.length x.k] 52)) w1.heap.size x from M3.new rfl)
      have HM2 := Lib.hid (HM1.out.below B2)
      have hf2 := HM2.out.fb.cell
      have HE := Lib.hid (u8_and_nat x.f f hxf hf)
      have hU := Lib.hid hu
      have hLU := Lib.hid hlu
      have hGU := Lib.hid hGu
      have hLT := Lib.hid hlt
      clear HM hR1 hg1 hs1 hlu hGu hlt B2 HK
      unfold msV at hrun hen
      by_cases hh : x.f &&& f = f
      · have hb1 : (bits .and .u8 (x.f : Int) (f : Int) == (f : Int)) = true := by rw [HE.out, hh]; simp
        have HI2 := Lib.hid (HI.out.hit hLT.out ⟨x, hGU.out, hh⟩ hu hLU.out H1.out)
        have hlen := HI.out.len
        obtain ⟨A', c', rfl⟩ := own_any HM2.out.row
        have hl2 := HM2.out.lb.cell
        have hl3 := HM2.out.lb.lt
        have HB3 := Lib.hid (below_al (w1.alloc (.cells #[.int .u32 (x.u : Int), .int .u8 (x.f : Int), .slice x.A x.b.length x.k] 52)) (.cells #[.int .u32 (u : Int)] 27))
        have HM3 := Lib.hid (HM2.out.below HB3.out)
        have HRW := Lib.hid HM3.out.row
        clear HE hh HI hu
        go_wp2_with (at_builtin; refine wpList_append_own _ rfl _ _ 28 rfl base 27 i0 _ 1 4 Tryz.underlying28 hi hz0 hz1 hz2 rfl (by decide) _ _ _ rfl HRW.out ⟨w1.heap.size + 1, 0, none⟩ 1 1 [.int .u32 (u : Int)] rfl rfl (cells_one (by simp) _ _) (by intro u hu; simp at hu; subst hu; rfl) (by unfold maxLen; omega) (by omega) (by simp; omega) ?_; intro v' wz hown' hgrow _; obtain ⟨A3, c3, rfl⟩ := own_any hown'; obtain ⟨tg, HM4⟩ := HM3.out.app (O' := O ++ [u]) hgrow (by rw [List.length_append, flatL_append]; exact hown') hne hbl; have q0 := tg.cell; have q1 := tg.fz)
        have K2 : KeptO (fun k => k = bl ∨ base ≤ k) w1 (wz.setCell ⟨bl, 0, none⟩ (.slice A3 (O.length + 1) c3)) := ((((KeptO.of_below (S := fun k => k = bl ∨ base ≤ k) HB2.out).then_below HB3.out).trans (KeptO.of_grown (S := fun k => k = bl ∨ base ≤ k) hgrow fun k hk => .inr (HRW.out.lt k hk).1) fun _ e => .inl e).trans ((KeptO.set wz bl 0 _).mono fun k e => .inl e) fun _ e => .inl e)
        have HK5 := Lib.hid (HK1.out.trans K2 fun _ e => .inl e)
        have hbs5 := Nat.le_trans hbs1 K2.size
        have HM5 := Lib.hid HM4
        clear K2 HM4 hown' hgrow
        go_roundw
        case rel => exact ⟨_, _, _, _, HM5, HI2, HK5, hbs5⟩
        case measure => rw [HM5.out.rg.left_eq, hm0.out]; exact hLT.out
      · have hb1 : (bits .and .u8 (x.f : Int) (f : Int) == (f : Int)) = false := by
          rw [HE.out, beq_eq_false_iff_ne]
          intro e
          exact hh (by omega)
        have HI2 := Lib.hid (HI.out.miss (u := u) hLT.out (by
          rintro ⟨y, hy, hyf⟩
          rw [hGU.out] at hy
          injection hy with hy
          injection hy with hy
          simp only [Array.mk.injEq, List.cons.injEq, Value.int.injEq] at hy
          exact hh (by rw [show x.f = y.f by omega]; exact hyf)))
        clear HE hh HI
        go_wp2_with fail
        go_roundw
        case rel => exact ⟨_, _, _, _, HM2, HI2, Lib.hid (HK1.out.then_below HB2.out), by simp; omega⟩
        case measure => rw [HM2.out.rg.left_eq, hm0.out]; exact hLT.out
end Go.Proofs.YthdbbappojkmoaaGreat

namespace Go.Proofs.YthdbbappojkmoaaGreat
open Go.RowKit

theorem Rw.own {w W : World} {base g cap : Nat} {e : TypeId} {l : List Nat} {d : Array Nat} (hr : Rw w g 0 l.length d W) (h : w.ownsRow base e 1 (.slice (some ⟨g, 0, none⟩) l.length cap) l.length (flatL encU l)) : W.ownsRow base e 1 (.slice (some ⟨g, 0, none⟩) l.length cap) l.length (flatL encU d.toList) := by
  rcases h.2 with ⟨h1, _⟩ | ⟨g', cap', cur, h1, hb, h3, h4, h5, h6, h7⟩
  · cases h1
  simp only [Value.slice.injEq, Option.some.injEq, Addr.mk.injEq, and_true, true_and] at h1
  obtain ⟨rfl, rfl⟩ := h1
  have hlt := hr.lt
  have hsz := hr.sz
  obtain ⟨m, os, rfl⟩ := hr.sw
  refine ⟨by rw [flatL_length encU_len]; simp [hsz], .inr ⟨g, cap, Sort.putCells encN 0 d cur, rfl, hb, ?_, h4, h5, by simp [Sort.putCells, h6], ?_⟩⟩
  · show ((w.heap.modify g _) ++ os)[g]? = _
    rw [Array.getElem?_append_left (by simpa using hlt), Array.getElem?_modify, if_pos rfl, h3]
    rfl
  · have e1 : flatL encU d.toList = d.toList.map encN := by
      generalize d.toList = q
      induction q with
      | nil => rfl
      | cons x q ih =>
        rw [List.map_cons, ← ih]
        rfl
    rw [e1]
    apply List.ext_getElem?
    intro j
    rw [List.getElem?_take]
    by_cases hj : j < l.length
    · have hjd : j < d.size := by omega
      rw [if_pos (by omega)]
      have hjc : j < cur.size := by omega
      simp [Sort.putCells, hjd, hjc]
    · rw [if_neg (by omega), List.getElem?_eq_none]
      simp
      omega
set_option maxRecDepth 100000 in
theorem sort_own (B : Nat) (v : Value) (l : List Nat) (hl : l.length ≤ 1000000000) (w : World) (hB : B ≤ w.heap.size) (hown : w.ownsRow B 27 1 v l.length (flatL encU l)) :
    Calls Tryz.prog 50 #[v] w fun e w' => e = .returned (.tuple #[]) ∧ (∃ l', l'.Perm l ∧ l'.Pairwise (· ≤ ·) ∧ w'.ownsRow B 27 1 v l.length (flatL encU l')) ∧ Below B w w' := by
  obtain ⟨A, c, rfl⟩ := own_any hown
  have HL := fun W => Lib.hid (len_any l.length hl W)
  rcases A with _ | ad
  · obtain rfl : l = [] := by
      rcases hown.2 with ⟨_, h⟩ | ⟨g, cap, cur, h, _⟩
      · exact List.eq_nil_of_length_eq_zero h
      · cases h
    have PN := Lib.hid (pdqNone none c w)
    have e0 : ((Sort.bitsLen ([] : List Nat).length : Nat) : Int) = 0 := rfl
    rw [e0] at HL
    have HOW := Lib.hid hown
    clear hl hown e0
    go_enter Tryz.func50, Tryz.ntmps50
    go_wp2_with fail
    refine (HL _).out.mono ?_
    rintro e w1 ⟨rfl, rfl⟩
    go_wp2_with fail
    refine PN.out.mono ?_
    rintro e w1 ⟨rfl, rfl⟩
    go_wp2_with fail
    go_end0
    exact ⟨rfl, ⟨[], List.Perm.refl _, List.Pairwise.nil, HOW.out⟩, Below.refl _ _⟩
  · obtain ⟨g, hg, hgl, hgB⟩ : ∃ g, ad = ⟨g, 0, none⟩ ∧ g < w.heap.size ∧ B ≤ g := by
      rcases hown.2 with ⟨h, _⟩ | ⟨g, cap, cur, h, hb, hh, _⟩
      · cases h
      · injection h with h
        injection h with h
        exact ⟨g, h, (Array.getElem?_eq_some_iff.1 hh).1, hb⟩
    subst hg
    have R := rw_own hown hgl
    have hk : Sort.bitsLen l.length ≤ 100 := Nat.le_trans ((Sort.bitsLen_le_iff _ 62).2 (by omega)) (by omega)
    have PQ := Lib.hid (pdq_any c hl (fs_any w g 0 l.length c hl) (l.length + 1) 0 l.length (Sort.bitsLen l.length) l.toArray w (by omega) (Nat.zero_le _) (Nat.le_refl _) hk (.inl rfl) R)
    have HOW := Lib.hid hown
    clear R hown
    generalize Sort.bitsLen l.length = bl at *
    go_enter Tryz.func50, Tryz.ntmps50
    go_wp2_with fail
    refine (HL _).out.mono ?_
    rintro e w1 ⟨rfl, rfl⟩
    go_wp2_with fail
    refine PQ.out.mono ?_
    rintro e w1 ⟨rfl, D, hp, hs, hr⟩
    have HP := Lib.hid hp
    have HS := Lib.hid hs
    clear hp hs PQ HL
    go_wp2_with fail
    go_end0
    have hz : l.toArray.size = D.size := by rw [hr.out.sz]; simp
    have h1 := perm_list (d := l.toArray) (d' := D) (by simpa using HP.out)
    have h2 := asc_list (d := D) (by rw [hr.out.sz]; exact HS.out)
    exact ⟨rfl, ⟨D.toList, by simpa using h1, h2, hr.out.own HOW.out⟩, ⟨hr.out.grown.os, hr.out.grown.tape, hr.out.grown.output, hr.out.grown.size, fun k hkB => hr.out.grown.block k (by omega) (fun e => by injection e; omega)⟩⟩
end Go.Proofs.YthdbbappojkmoaaGreat

namespace Go.Proofs.YthdbbappojkmoaaGreat
open Go.RowKit Go.Maps

theorem msV_f {x y : MI} (h : msV x = msV y) : x.f = y.f := by
  unfold msV at h
  simp only [Value.agg.injEq, Array.mk.injEq, List.cons.injEq, Value.int.injEq] at h
  omega
theorem asc_strict : ∀ {l : List Nat}, l.Pairwise (· ≤ ·) → l.Nodup → l.Pairwise (· < ·)
  | [], _, _ => .nil
  | x :: l, h, hd => by
    rw [List.pairwise_cons] at h ⊢
    rw [List.nodup_cons] at hd
    refine ⟨fun y hy => ?_, asc_strict h.2 hd.2⟩
    have := h.1 y hy
    have : x ≠ y := fun e => hd.1 (e ▸ hy)
    omega
theorem sum_take {L : List Nat} {i : Nat} (hi : i < L.length) : (L.take (i + 1)).sum = (L.take i).sum + L[i] := by
  rw [List.take_succ_eq_append_getElem hi, List.sum_append]
  simp
section
variable {g n : Nat} {S : Nat → Prop} {L : List MI} {w : World}
/-- What With has gathered of the first i stripes. -/
def WiP (R : TR) (g n : Nat) (S : Nat → Prop) (X : Nat → Option MI) (L : List MI) (f bf bl base : Nat) (w : World) (i : Nat) (W : World) : Prop :=
  TbX R g n S X W ∧ Vb W bf 32 (.int .u8 (f : Int)) ∧ (∃ v O, Vb W bl 28 v ∧ W.ownsRow base 27 1 v O.length (flatL encU O) ∧ O.Nodup ∧ O.length ≤ ((szM L n).take i).sum ∧ ∀ u, u ∈ O ↔ u % n < i ∧ u ≤ 4294967295 ∧ ∃ x, X u = some x ∧ x.f &&& f = f) ∧
    KeptO (fun k => S k ∨ w.heap.size ≤ k) w W ∧ base ≤ W.heap.size
theorem with_step {R : TR} {X : Nat → Option MI} (hX : TbX R g n S X w) (hG : GoodM L) (hL : Like X L) (hlen : L.length ≤ 100000) (f : Nat) (hf : f < 256) (bf bl base : Nat) (hbf : bf = w.heap.size) (hbl : bl = w.heap.size + 1) (hba : base = w.heap.size + 2) (i : Nat) (hi : i < n) (W : World) (h : WiP R g n S X L f bf bl base w i W) :
    Calls Tryz.prog 79 (#[.pointer (some ⟨R.ss i, 0, none⟩)] ++ #[.pointer (some ⟨bf, 0, none⟩), .pointer (some ⟨bl, 0, none⟩)]) (W.setCell ⟨R.ss i, 0, none⟩ (.int .i32 1)) fun e w' => e = .returned (.tuple #[]) ∧ Strp (R.ss i) (R.bb i) 1 w' ∧ WiP R g n S X L f bf bl base w (i + 1) (w'.setCell ⟨R.ss i, 0, none⟩ (.int .i32 0)) := by
  obtain ⟨hXW, hF, ⟨v, O, hb, hown, hnd, hle, hmem⟩, hkW, hsz⟩ := h
  have hi2 : i < (szM L n).length := by rw [szM_len]; exact hi
  have hss : R.ss i < w.heap.size := hX.lt _ (hX.Ks hi)
  have hbb : R.bb i < w.heap.size := hX.lt _ (hX.Kb hi)
  have K0 := KeptO.set W (R.ss i) 0 (.int .i32 1)
  have hM := (hXW.cnt hL hG hi hi2).at_ (K0.block _ (hXW.cnt hL hG hi hi2).lt fun e => hX.sb _ _ hi hi e.symm)
  have S0 := (hXW.st i hi).set 1
  have hs1 := sum_take hi2
  have hs2 : ((szM L n).take (i + 1)).sum ≤ L.length := by
    have h1 := szM_sum L n hX.hn.1
    have h2 := congrArg List.sum (List.take_append_drop (i + 1) (szM L n))
    rw [List.sum_append] at h2
    omega
  have HXf : ∀ u x, X u = some x → x.f < 256 ∧ u ≤ 4294967295 := by
    intro u x hx
    have := hL u
    rw [hx] at this
    cases hg : getM L u with
    | none =>
      rw [hg] at this
      cases this
    | some y =>
      rw [hg] at this
      have hk : keyM x = keyM y := Option.some.inj this
      have hfy : x.f = y.f := congrArg (fun z => z.2.1) hk
      have ho := hG.ok y (getM_mem hg)
      have := getM_u hg
      omega
  refine (with1_any (R.ss i) (R.bb i) bf bl ((szM L n)[i]) base f hf O v (GX X n i) _ S0 hM (hF.kept K0 (by omega)) (hb.kept K0 (by omega)) (own_keptO hown K0 fun k e => by omega) (by omega) (by omega) (by simpa using hsz) (by omega) ?_ hnd ?_).mono ?_
  · intro u v hv
    unfold GX at hv
    split at hv
    · cases hx : X u with
      | none => rw [hx] at hv; cases hv
      | some x =>
        rw [hx] at hv
        exact ⟨x, (Option.some.inj hv).symm, (HXf u x hx).1⟩
    · cases hv
  · intro u hu
    have := ((hmem u).1 hu).1
    unfold GX
    rw [if_neg (by omega)]
  · rintro e w' ⟨rfl, hk, v', O', hb', hown', hnd', hle', hmem'⟩
    have S1 := S0.kept hk (by rintro (e | e) <;> omega)
    have KT : KeptO (fun k => k = R.ss i ∨ w.heap.size + 1 ≤ k) W (w'.setCell ⟨R.ss i, 0, none⟩ (.int .i32 0)) := by
      refine ((K0.mono fun k e => .inl e).trans (hk.mono (S' := fun k => k = R.ss i ∨ w.heap.size + 1 ≤ k) ?_) fun _ e => .inl e).trans ((KeptO.set _ (R.ss i) 0 _).mono (S' := fun k => k = R.ss i ∨ w.heap.size + 1 ≤ k) fun k e => .inl e) fun _ e => .inl e
      rintro k (e | e) <;> right <;> omega
    refine ⟨rfl, S1, hXW.again i hi KT ?_ (S1.set 0), hF.kept KT (by rintro (e | e) <;> omega), ⟨v', O', hb'.kept (KeptO.set _ (R.ss i) 0 _) (by omega), own_keptO hown' (KeptO.set _ (R.ss i) 0 _) (fun k e => by omega), hnd', by omega, fun u => ?_⟩, hkW.trans KT ?_, Nat.le_trans hsz KT.size⟩
    · rintro k (e | e) j
      · exact e
      · have := hX.lt k j
        omega
    · rw [hmem' u, hmem u]
      constructor
      · rintro (⟨h1, h2, h3⟩ | ⟨h1, x, hx, hxf⟩)
        · exact ⟨by omega, h2, h3⟩
        · unfold GX at hx
          split at hx
          · rename_i e
            cases hxu : X u with
            | none => rw [hxu] at hx; cases hx
            | some y =>
              rw [hxu] at hx
              have := msV_f (Option.some.inj hx)
              exact ⟨by omega, h1, y, rfl, by rw [this]; exact hxf⟩
          · cases hx
      · rintro ⟨h1, h2, x, hx, hxf⟩
        by_cases e : u % n < i
        · exact .inl ⟨e, h2, x, hx, hxf⟩
        · refine .inr ⟨h2, x, ?_, hxf⟩
          unfold GX
          rw [if_pos (by omega), hx]
          rfl
    · rintro j (e | e)
      · exact .inl (.inl (e ▸ hX.Ks hi))
      · exact .inl (.inr (by omega))
set_option maxRecDepth 100000 in
set_option maxHeartbeats 1000000 in
theorem twith_same (f : Nat) (hf : f ≤ 255) (h : Tb g n S L w) (hl : L.length ≤ 100000) : Calls Tryz.prog 59 #[.pointer (some ⟨g, 0, none⟩), .int .u8 f] w fun e w' => ∃ O v, e = .returned v ∧ IsSet O (wiM L f) ∧ O.length ≤ L.length ∧ w'.ownsRow w.heap.size 27 1 v O.length (flatL encU O) ∧ Tb g n S L w' ∧ KeptO S w w' := by
  obtain ⟨hG, R, X, hX, hL⟩ := h
  have HC : Hid (∀ W, W = (w.alloc (.cells #[.int .u8 (f : Int)] 32)).alloc (.cells #[.slice none 0 0] 28) → Calls Tryz.prog 78 #[.pointer (some ⟨g, 0, none⟩), .func (.func 79) #[] #[.pointer (some ⟨w.heap.size, 0, none⟩), .pointer (some ⟨w.heap.size + 1, 0, none⟩)]] W fun e w' => e = .returned (.tuple #[]) ∧
      ∃ v O, Vb w' (w.heap.size + 1) 28 v ∧ Hid (w'.ownsRow (w.heap.size + 2) 27 1 v O.length (flatL encU O)) ∧ Hid (O.Nodup) ∧ O.length ≤ L.length ∧ Hid (∀ u, u ∈ O ↔ u ∈ wiM L f) ∧ Hid (TbX R g n S X w') ∧ Hid (KeptO S w w') ∧ w.heap.size + 2 ≤ w'.heap.size) := by
    refine Lib.hid fun W hW => ?_
    have b0 := below_al w (.cells #[.int .u8 (f : Int)] 32)
    have z0 : (w.alloc (.cells #[.int .u8 (f : Int)] 32)).heap.size = w.heap.size + 1 := by simp
    have x0 := Vb.new w 32 (.int .u8 (f : Int))
    have x1 := Vb.new (w.alloc (.cells #[.int .u8 (f : Int)] 32)) 28 (.slice none 0 0)
    have b1 := below_al (w.alloc (.cells #[.int .u8 (f : Int)] 32)) (.cells #[.slice none 0 0] 28)
    have z1 : ((w.alloc (.cells #[.int .u8 (f : Int)] 32)).alloc (.cells #[.slice none 0 0] 28)).heap.size = w.heap.size + 2 := by simp
    rw [z0] at x1
    have x00 := x0.below b1
    have hb := below_next b0 b1
    rw [← hW] at x1 x00 hb z1
    clear hW b0 b1 x0 z0
    refine (each_any 79 _ (hX.below hb) (fun args w => by simp [go_sem]) (WiP R g n S X L f w.heap.size (w.heap.size + 1) (w.heap.size + 2) w) ?_ (fun i W h => h.1)
      (fun i hi W hW => with_step hX hG hL hl f (by omega) _ _ _ rfl rfl rfl i hi W hW)).mono ?_
    · exact ⟨hX.below hb, x00, ⟨_, [], x1, World.ownsRow_nil _ _ _ _, List.nodup_nil, Nat.zero_le _, fun u => ⟨fun h => (by cases h), fun h => absurd h.1 (Nat.not_lt_zero _)⟩⟩, KeptO.of_below hb, by omega⟩
    · rintro e w' ⟨rfl, k1, -, ⟨v, O, k2, k3, k4, k5, k6⟩, k7, k8⟩
      have hs : ((szM L n).take n).sum = L.length := by
        rw [List.take_of_length_le (by rw [szM_len]; exact Nat.le_refl _)]
        exact szM_sum L n hX.hn.1
      refine ⟨rfl, v, O, k2, k3, k4, by omega, fun u => ?_, k1, ⟨k7.os, k7.tape, k7.output, k7.size, fun k hk hS => k7.block k hk fun e => e.elim hS fun e => by omega⟩, k8⟩
      rw [k6 u, wiM_mem hG]
      have hu := hL u
      constructor
      · rintro ⟨h1, h2, x, hx, hxf⟩
        rw [hx] at hu
        cases hg : getM L u with
        | none => rw [hg] at hu; cases hu
        | some y =>
          rw [hg] at hu
          have hk : keyM x = keyM y := Option.some.inj hu
          exact ⟨y, rfl, by rw [← show x.f = y.f from congrArg (fun z => z.2.1) hk]; exact hxf⟩
      · rintro ⟨y, hg, hyf⟩
        rw [hg] at hu
        cases hx : X u with
        | none => rw [hx] at hu; cases hu
        | some x =>
          rw [hx] at hu
          have hk : keyM x = keyM y := Option.some.inj hu
          have := hG.ok y (getM_mem hg)
          have := getM_u hg
          exact ⟨Nat.mod_lt _ hX.hn.1, by omega, x, rfl, by rw [show x.f = y.f from congrArg (fun z => z.2.1) hk]; exact hyf⟩
  have HS : Hid (∀ k, S k → k < w.heap.size) := Lib.hid hX.lt
  have HU : Hid (∀ u, u ∈ wiM L f → 0 < u) := Lib.hid fun u hu => by
    obtain ⟨m, hm, _⟩ := (wiM_mem hG f u).1 hu
    have := hG.ok m (getM_mem hm)
    have := getM_u hm
    omega
  clear hX
  go_enter Tryz.func59, Tryz.ntmps59
  go_wp2_with fail
  refine (HC.out _ rfl).mono ?_
  rintro e w1 ⟨rfl, v, O, k1, k2, k3, k4, k5, k6, k7, k8⟩
  have c0 := k1.cell
  have SO := Lib.hid (sort_own (w.heap.size + 2) v O (by omega) w1 k8 k2.out)
  have HK1 := Lib.hid k1
  have k9 := k1.lt
  clear HC k1
  go_wp2_with fail
  refine SO.out.mono ?_
  rintro e w2 ⟨rfl, ⟨O', hp, hasc, ho2⟩, hb2⟩
  have c1 := (hb2.cell (p := ⟨w.heap.size + 1, 0, none⟩) (by show w.heap.size + 1 < w.heap.size + 2; omega)).trans c0
  have HO2 := Lib.hid ho2
  have HP := Lib.hid hp
  have HA := Lib.hid hasc
  have HB := Lib.hid hb2
  clear ho2 hp hasc hb2 SO c0
  go_wp2_with fail
  go_ret
  have hlen := HP.out.length_eq
  refine ⟨O', v, rfl, ⟨asc_strict HA.out (HP.out.nodup_iff.2 k3.out), fun u => ?_⟩, by omega, ?_, ⟨hG, R, X, k6.out.kept (T := fun k => w.heap.size + 2 ≤ k) ⟨HB.out.os, HB.out.tape, HB.out.output, HB.out.size, fun k _ hk => HB.out.block k (by omega)⟩ (fun k h1 h2 => by have := HS.out k h1; omega), hL⟩, ?_⟩
  · rw [HP.out.mem_iff, k5.out u]
    exact ⟨fun h => ⟨h, HU.out u h⟩, fun h => h.1⟩
  · rw [hlen]
    exact own_mono HO2.out (by omega)
  · exact k7.out.trans (S' := fun k => w.heap.size + 2 ≤ k) ⟨HB.out.os, HB.out.tape, HB.out.output, HB.out.size, fun k _ hk => HB.out.block k (by omega)⟩ fun j e => by right; omega
theorem twith_any (f : Nat) (hf : f ≤ 255) (h : Tb g n S L w) (hl : L.length ≤ 100000) : Calls Tryz.prog 59 #[.pointer (some ⟨g, 0, none⟩), .int .u8 f] w fun e w' => ∃ O v S', e = .returned v ∧ IsSet O (wiM L f) ∧ O.length ≤ L.length ∧ w'.ownsRow w.heap.size 27 1 v O.length (flatL encU O) ∧ Tb g n S' L w' ∧ More S S' w ∧ KeptO S w w' := by
  refine (twith_same f hf h hl).mono ?_
  rintro e w' ⟨O, v, rfl, h1, h2, h3, h4, h5⟩
  exact ⟨O, v, S, rfl, h1, h2, h3, h4, More.refl _ _, h5⟩
end
end Go.Proofs.YthdbbappojkmoaaGreat
