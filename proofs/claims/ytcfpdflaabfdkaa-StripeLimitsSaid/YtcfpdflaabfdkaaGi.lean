/- The table of layer 13: what its calls do to the list of messages. -/
import Derived.Test.YtcfpdflaabfdkaaGh
import Derived.Test.YtcfpdflaabfdkaaGg
import Derived.Test.YtcfpdflaabfdkaaGf
namespace Go.Proofs.Ytcfpdflaabfdkaa
open Go.RowKit Go.Maps

section
variable {g n : Nat} {S : Nat → Prop} {L : List MI} {w : World}
theorem Like.zero {X : Nat → Option MI} (h : Like X L) (u : Nat) : keyM ((X u).getD msZ) = keyM ((getM L u).getD ⟨0, 0, none, 0, []⟩) := by
  have := h u
  cases hx : X u with
  | none =>
    rw [hx] at this
    cases hg : getM L u with
    | none => rfl
    | some y =>
      rw [hg] at this
      cases this
  | some x =>
    rw [hx] at this
    cases hg : getM L u with
    | none =>
      rw [hg] at this
      cases this
    | some y =>
      rw [hg] at this
      exact Option.some.inj this
theorem sameM_key {a b : MI} (h : keyM a = keyM b) : sameM a b = true := by
  unfold keyM at h
  injection h with h1 h2
  injection h2 with h2 h3
  exact sameM_iff.2 ⟨h1, h2, h3⟩
theorem Like.len {X : Nat → Option MI} (h : Like X L) (hG : GoodM L) (u : Nat) : ((X u).getD msZ).b.length ≤ 65536 := by
  have e : ((X u).getD msZ).b = ((getM L u).getD ⟨0, 0, none, 0, []⟩).b := congrArg (fun x => x.2.2) (h.zero u)
  rw [e]
  cases hg : getM L u with
  | none => exact Nat.zero_le _
  | some y => exact (hG.ok y (getM_mem hg)).2.2.2
theorem tget_any (u : Nat) (hu : u ≤ 4294967295) (h : Tb g n S L w) (_ : L.length ≤ 100000) :
    Calls Try.prog 22 #[.pointer (some ⟨g, 0, none⟩), .int .u32 u] w fun e w' => ∃ (x : MI) (S' : Nat → Prop), e = .returned (.tuple #[msV x, .bool (getM L u).isSome]) ∧
      sameM x ((getM L u).getD ⟨0, 0, none, 0, []⟩) = true ∧ w'.ownsRow w.heap.size 5 1 (.slice x.A x.b.length x.k) x.b.length (flatL encB x.b) ∧ Out S' x.A ∧ Tb g n S' L w' ∧ More S S' w ∧ KeptO S w w' := by
  obtain ⟨hG, R, X, hX, hL⟩ := h
  refine (get_go hX u hu (hL.len hG u)).mono ?_
  rintro e w' ⟨y, rfl, k1, k2, k3, k4⟩
  refine ⟨y, S, by rw [hL.isSome], sameM_key (k1.trans (hL.zero u)), k2, own_out k2 hX.lt, ⟨hG, R, X, k3, hL⟩, More.refl _ _, k4⟩
theorem tremove_any (u : Nat) (hu : u ≤ 4294967295) (h : Tb g n S L w) (_ : L.length ≤ 100000) :
    Calls Try.prog 24 #[.pointer (some ⟨g, 0, none⟩), .int .u32 u] w fun e w' => ∃ (x : MI) (S' : Nat → Prop), e = .returned (.tuple #[msV x, .bool (getM L u).isSome]) ∧
      sameM x ((getM L u).getD ⟨0, 0, none, 0, []⟩) = true ∧ ByAt w'.heap.size w' x.A x.k x.b ∧ Tb g n S' (remM L u) w' ∧ More S S' w ∧ KeptO S w w' := by
  obtain ⟨hG, R, X, hX, hL⟩ := h
  refine (remove_go hX u hu).mono ?_
  rintro e w' ⟨rfl, k1, k2, k3⟩
  refine ⟨_, S, by rw [hL.isSome], sameM_key (hL.zero u), k2, ⟨hG.rem u, R, _, k1, fun v => ?_⟩, More.refl _ _, k3⟩
  rw [getM_rem]
  unfold dropX
  by_cases e : v = u
  · rw [if_pos e, if_pos e]
  · rw [if_neg e, if_neg e]; exact hL v
theorem tflags_any (u : Nat) (mo : Int) (f : Nat) (hu : u ≤ 4294967295) (hm1 : -9223372036854775808 ≤ mo) (hm2 : mo ≤ 9223372036854775807) (hf : f ≤ 255) (h : Tb g n S L w) (hl : L.length ≤ 100000) :
    Calls Try.prog 25 #[.pointer (some ⟨g, 0, none⟩), .int .u32 u, .int .i64 mo, .int .u8 f] w fun e w' => ∃ S', e = .returned (.tuple #[.int .u8 (flM L u mo f).2.1, .int .i64 (flM L u mo f).2.2]) ∧ Tb g n S' (flM L u mo f).1 w' ∧ More S S' w ∧ KeptO S w w' := by
  obtain ⟨hG, R, X, hX, hL⟩ := h
  have hS : ∀ k, w.heap.size ≤ k → ¬ S k := fun k h1 h2 => by have := hX.lt k h2; omega
  have hin : u % n < n := Nat.mod_lt _ hX.hn.1
  have key : ∀ (X' : Nat → Option MI) (av cd : Int) (L' : List MI), GoodM L' → Like X' L' → flM L u mo f = (L', av, cd) →
      (∀ W, FlB w.heap.size (w.heap.size + 1) (w.heap.size + 1 + 1) (w.heap.size + 1 + 1 + 1 + 1) (w.heap.size + 1 + 1 + 1) u mo f 0 7 W → Below w.heap.size w W → TbX R g n S X W → Calls Try.prog 35 #[.pointer (some ⟨g, 0, none⟩), .int .u32 u, .func (.func 40) #[] #[.pointer (some ⟨w.heap.size, 0, none⟩), .pointer (some ⟨w.heap.size + 1, 0, none⟩), .pointer (some ⟨w.heap.size + 1 + 1, 0, none⟩), .pointer (some ⟨w.heap.size + 1 + 1 + 1 + 1, 0, none⟩), .pointer (some ⟨w.heap.size + 1 + 1 + 1, 0, none⟩)]] W
        (FlPo R g n S (u % n) (w.heap.size + 1 + 1 + 1 + 1) (w.heap.size + 1 + 1 + 1) X' av cd W)) →
      Calls Try.prog 25 #[.pointer (some ⟨g, 0, none⟩), .int .u32 u, .int .i64 mo, .int .u8 f] w fun e w' => ∃ S', e = .returned (.tuple #[.int .u8 (flM L u mo f).2.1, .int .i64 (flM L u mo f).2.2]) ∧ Tb g n S' (flM L u mo f).1 w' ∧ More S S' w ∧ KeptO S w w' := by
    intro X' av cd L' hG' hL' he hC
    rw [he]
    refine (flags_go u f mo av cd (fun w' => TbX R g n S X' w' ∧ KeptO S w w') (fun W hW => ?_) (fun W hW => ⟨hW.1.below (below_drew 1), hW.2.drew⟩)).mono ?_
    · obtain ⟨hB, hb⟩ := five_new w u f mo W hW
      refine (hC W hB hb (hX.below hb)).mono ?_
      rintro e w' ⟨rfl, k1, k2, k3, k4⟩
      refine ⟨rfl, k1, k2, k3, (KeptO.of_below (S := S) hb).trans k4 ?_⟩
      rintro j (((e | e) | e) | e)
      · right; omega
      · right; omega
      · exact .inl (e ▸ hX.Kb hin)
      · exact .inl (e ▸ hX.Ks hin)
    · rintro e w' ⟨rfl, k1, k2⟩
      exact ⟨S, rfl, ⟨hG', R, X', k1, hL'⟩, More.refl _ _, k2⟩
  rcases fdI_get L u with ⟨h1, h2⟩ | ⟨k, hk, h1, h2, h3⟩
  · have hx : X u = none := by
      have := hL.isSome u
      rw [h2] at this
      cases hx : X u with
      | none => rfl
      | some x => rw [hx] at this; cases this
    exact key X 0 7 L hG hL (flM_none mo f h1) fun W hB hb hXW => flags_in_none hXW u (u % n) mo f hu rfl _ _ _ _ _ hB (hS _ (by omega)) (hS _ (by omega)) (hS _ (by omega)) (hS _ (by omega)) (hS _ (by omega)) hx
  · have hsome := hL u
    rw [h2] at hsome
    cases hx : X u with
    | none =>
      rw [hx] at hsome
      cases hsome
    | some x =>
      rw [hx] at hsome
      have hkey : keyM x = keyM L[k] := Option.some.inj hsome
      have hxf : x.f = L[k].f := congrArg (fun y => y.2.1) hkey
      have hok := hG.ok L[k] (List.getElem_mem _)
      cases hch : changeO L[k].f mo f with
      | none =>
        have he := flM_some mo f hk h1
        rw [hch] at he
        exact key X 0 2 L hG hL he fun W hB hb hXW => flags_in_bad hXW u (u % n) mo f hu rfl _ _ _ _ _ hB (hS _ (by omega)) (hS _ (by omega)) (hS _ (by omega)) (hS _ (by omega)) (hS _ (by omega)) (by omega) x hx (by omega) (by omega) hm1 hm2 (by rw [hxf]; exact hch)
      | some y =>
        have hy := changeO_le hch
        have he := flM_some mo f hk h1
        rw [hch] at he
        have hsz : u % n < (szM L n).length := by rw [szM_len]; exact hin
        have hc := hX.cnt hL hG hin hsz
        have hcl := szM_le L n hsz
        generalize (szM L n)[u % n]'hsz = c at *
        refine key (putX X { x with f := y }) (y : Int) 0 (L.set k { L[k] with f := y }) (hG.set k y hk hy) (fun v => ?_) he fun W hB hb hXW => flags_in_ok hXW u (u % n) mo f hu rfl _ _ _ _ _ hB (hS _ (by omega)) (hS _ (by omega)) (hS _ (by omega)) (hS _ (by omega)) (hS _ (by omega)) (by omega) (by omega) x hx ⟨c, by omega, hc.below hb⟩ (by omega) (by omega) hm1 hm2 y (by rw [hxf]; exact hch)
        have hxu : x.u = L[k].u := congrArg (fun y => y.1) hkey
        rw [getM_set L k y hk (by rw [h3]; exact h1)]
        unfold putX
        by_cases e : v = L[k].u
        · rw [if_pos e, if_pos (e.trans hxu.symm)]
          show some (x.u, y, x.b) = some (L[k].u, y, L[k].b)
          rw [hxu, show x.b = L[k].b from congrArg (fun y => y.2.2) hkey]
        · rw [if_neg e, if_neg fun e2 => e (e2.trans hxu)]
          exact hL v
theorem tof_any (u : Nat) (hu : u ≤ 4294967295) (h : Tb g n S L w) : Calls Try.prog 20 #[.pointer (some ⟨g, 0, none⟩), .int .u32 u] w fun e w' => e = .returned (.int .i64 ((u % n : Nat) : Int)) ∧ Below w.heap.size w w' := by
  obtain ⟨hG, R, X, hX, hL⟩ := h
  refine (tof_eq hX u hu).mono ?_
  rintro e w' ⟨rfl, rfl⟩
  exact ⟨rfl, Below.refl _ _⟩
theorem tstripes_any (h : Tb g n S L w) : Calls Try.prog 12 #[.pointer (some ⟨g, 0, none⟩)] w fun e w' => e = .returned (.int .i64 (n : Int)) ∧ Below w.heap.size w w' := by
  obtain ⟨hG, R, X, hX, hL⟩ := h
  refine (tstripes_eq hX).mono ?_
  rintro e w' ⟨rfl, rfl⟩
  exact ⟨rfl, Below.refl _ _⟩
end
section
set_option maxRecDepth 100000 in
theorem tstripes_nil (w : World) : Calls Try.prog 12 #[.pointer none] w fun e w' => e = .returned (.int .i64 0) ∧ Below w.heap.size w w' := by
  go_enter Try.func12, Try.ntmps12
  go_wp2_with fail
  go_ret
  exact ⟨rfl, Below.refl _ _⟩
set_option maxRecDepth 100000 in
theorem tof_nil (u : Nat) (w : World) : Calls Try.prog 20 #[.pointer none, .int .u32 u] w fun e w' => e = .returned (.int .i64 0) ∧ Below w.heap.size w w' := by
  go_enter Try.func20, Try.ntmps20
  go_wp2_with fail
  go_ret
  exact ⟨rfl, Below.refl _ _⟩
set_option maxRecDepth 100000 in
theorem in_nil (u F : Nat) (cs : Array Value) (w : World) : Calls Try.prog 35 #[.pointer none, .int .u32 u, .func (.func F) #[] cs] w fun e w' => e = .returned (.tuple #[]) ∧ w = w' := by
  go_enter Try.func35, Try.ntmps35
  go_wp2_with fail
  go_end0
  exact ⟨rfl, rfl⟩
end
end Go.Proofs.Ytcfpdflaabfdkaa

namespace Go.Proofs.Ytcfpdflaabfdkaa
open Go.RowKit Go.Maps

set_option maxRecDepth 100000 in
set_option maxHeartbeats 1000000 in
theorem tget_nil (u : Nat) (w : World) : Calls Try.prog 22 #[.pointer none, .int .u32 u] w fun e w' => ∃ x : MI, e = .returned (.tuple #[msV x, .bool false]) ∧ Below w.heap.size w w' := by
  obtain ⟨W, hW⟩ : ∃ W, W = ((((w.alloc (.cells #[.int .u32 (u : Int)] 29)).alloc (.cells #[.int .u32 0, .int .u8 0, .slice none 0 0] 33)).alloc (.cells #[.int .u32 0, .int .u8 0, .slice none 0 0] 33)).alloc (.cells #[.bool false] 4)) := ⟨_, rfl⟩
  have HC := Lib.hid (fun F cs => in_nil u F cs W)
  obtain ⟨-, k3, k2, k4, hb, -⟩ := four_new w _ _ _ _ W hW
  have HK := Lib.hid hb
  have HW := Lib.hid hW
  clear hb hW
  go_enter Try.func22, Try.ntmps22
  go_wp2_with fail
  rw [← HW.out]
  refine (HC.out _ _).mono ?_
  rintro e w1 ⟨rfl, rfl⟩
  clear HC HW
  have F1 := Lib.hid (HK.out.trans ((KeptO.drew (st3_kept W (w.heap.size + 1) msZ)).below (B := w.heap.size) (fun k e => by omega) HK.out.size))
  have F2 := (k3.st3 msZ).draw
  obtain ⟨d0, d1, d2⟩ := k2.cells
  obtain ⟨f0, f1, f2⟩ := k3.cells
  have g0 := k3.fz 0
  have g1 := k3.fz 1
  have g2 := k3.fz 2
  have c0 := k4.cell
  clear k2 k3 k4
  unfold st3 at F1 F2
  go_upto_region 4 with (fail)
  go_region
  clear d0 d1 d2 f0 f1 f2 g0 g1 g2 c0
  generalize World.drew _ = w2 at *
  obtain ⟨d0, d1, d2⟩ := F2.cells
  clear F2
  go_wp2_with fail
  refine bodyPost_ret (v := .tuple #[msV msZ, .bool false]) ?_ rfl ?_
  · simp [results, Try.results22, go_sem, d0, d1, d2, msV]
  · exact ⟨msZ, rfl, F1.out⟩

set_option maxRecDepth 100000 in
set_option maxHeartbeats 1000000 in
theorem tremove_nil (u : Nat) (w : World) : Calls Try.prog 24 #[.pointer none, .int .u32 u] w fun e w' => ∃ x : MI, e = .returned (.tuple #[msV x, .bool false]) ∧ Below w.heap.size w w' := by
  obtain ⟨W, hW⟩ : ∃ W, W = ((((w.alloc (.cells #[.int .u32 (u : Int)] 29)).alloc (.cells #[.int .u32 0, .int .u8 0, .slice none 0 0] 33)).alloc (.cells #[.int .u32 0, .int .u8 0, .slice none 0 0] 33)).alloc (.cells #[.bool false] 4)) := ⟨_, rfl⟩
  have HC := Lib.hid (fun F cs => in_nil u F cs W)
  obtain ⟨-, k3, k2, k4, hb, -⟩ := four_new w _ _ _ _ W hW
  have HK := Lib.hid hb
  have HW := Lib.hid hW
  clear hb hW
  go_enter Try.func24, Try.ntmps24
  go_wp2_with fail
  rw [← HW.out]
  refine (HC.out _ _).mono ?_
  rintro e w1 ⟨rfl, rfl⟩
  clear HC HW
  have F1 := Lib.hid (HK.out.trans ((KeptO.drew (st3_kept W (w.heap.size + 1) msZ)).below (B := w.heap.size) (fun k e => by omega) HK.out.size))
  have F2 := (k3.st3 msZ).draw
  obtain ⟨d0, d1, d2⟩ := k2.cells
  obtain ⟨f0, f1, f2⟩ := k3.cells
  have g0 := k3.fz 0
  have g1 := k3.fz 1
  have g2 := k3.fz 2
  have c0 := k4.cell
  clear k2 k3 k4
  unfold st3 at F1 F2
  go_upto_region 4 with (fail)
  go_region
  clear d0 d1 d2 f0 f1 f2 g0 g1 g2 c0
  generalize World.drew _ = w2 at *
  obtain ⟨d0, d1, d2⟩ := F2.cells
  clear F2
  go_wp2_with fail
  refine bodyPost_ret (v := .tuple #[msV msZ, .bool false]) ?_ rfl ?_
  · simp [results, Try.results24, go_sem, d0, d1, d2, msV]
  · exact ⟨msZ, rfl, F1.out⟩
end Go.Proofs.Ytcfpdflaabfdkaa
