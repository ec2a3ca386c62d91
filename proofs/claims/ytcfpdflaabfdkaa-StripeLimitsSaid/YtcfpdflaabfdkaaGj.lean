/- The table of layer 13: a function called with each stripe. -/
import Derived.Test.YtcfpdflaabfdkaaGe
import Derived.Deep.RegionHeld3
import Derived.Deep.RegionLaw
import Derived.Deep.DrawnRows
namespace Go.Proofs.Ytcfpdflaabfdkaa
open Go.RowKit Go.Maps

section
variable {R : TR} {g n : Nat} {S : Nat → Prop} {X : Nat → Option MI} {w : World}
set_option maxRecDepth 100000 in
set_option maxHeartbeats 1000000 in
theorem each_any (F : Nat) (cs : Array Value) (h : TbX R g n S X w) (henter : ∀ args w, (callFunc F args).run Try.prog w = .ok (.enter F args) w) (P : Nat → World → Prop) (h0 : P 0 w) (hP : ∀ i W, P i W → TbX R g n S X W)
    (hact : ∀ i, i < n → ∀ W, P i W → Calls Try.prog F (#[.pointer (some ⟨R.ss i, 0, none⟩)] ++ cs) (W.setCell ⟨R.ss i, 0, none⟩ (.int .i32 1)) fun e w' => e = .returned (.tuple #[]) ∧ Strp (R.ss i) (R.bb i) 1 w' ∧ P (i + 1) (w'.setCell ⟨R.ss i, 0, none⟩ (.int .i32 0))) :
    Calls Try.prog 30 #[.pointer (some ⟨g, 0, none⟩), .func (.func F) #[] cs] w fun e w' => e = .returned (.tuple #[]) ∧ P n w' := by
  have hc := h.tc
  have hn16 := h.hn.2
  have LK := Lib.hid (fun i (hi : i < n) W (hW : P i W) => locked_any (R.ss i) (R.bb i) F cs W ((hP i W hW).st i hi) henter (P (i + 1)) (hact i hi W hW))
  have HR := Lib.hid (fun i (hi : i < n) W (hW : P i W) => (hP i W hW).row i hi)
  have H0 := Lib.hid h0
  clear hact henter h hP h0
  generalize R.r = r at *
  generalize R.cap = cap at *
  go_enter Try.func30, Try.ntmps30
  go_wp2_with fail
  go_loopw [13] (fun i wr => ∃ k : Nat, k ≤ n ∧ i = .int .i64 k ∧ Hid (P k wr)) (fun i _ => n - (intOf i).toNat)
  case atStart => exact ⟨0, Nat.zero_le _, rfl, H0⟩
  case round =>
    obtain ⟨k, hk, rfl, HP⟩ := hrel
    clear hc H0
    by_cases hlt : k < n
    · have hr := HR.out k hlt wr HP.out
      have hk0 : (0 : Int) ≤ (k : Int) := by omega
      have hk1 : (k : Int) < (n : Int) := by omega
      have L1 := Lib.hid (LK.out k hlt wr HP.out)
      generalize R.ss k = s at *
      clear LK HR
      go_wp2_with fail
      refine L1.out.mono ?_
      rintro e w2 ⟨rfl, h2⟩
      have H2 := Lib.hid h2
      clear h2 L1 hr HP
      go_wp2_with fail
      go_roundw
      case rel => exact ⟨k + 1, by omega, by go_num, H2⟩
      case measure => simp [intOf]; omega
    · obtain rfl : k = n := by omega
      go_wp2_with fail
      go_end0
      exact ⟨rfl, HP.out⟩
set_option maxRecDepth 100000 in
theorem each_nil (F : Nat) (cs : Array Value) (w : World) : Calls Try.prog 30 #[.pointer none, .func (.func F) #[] cs] w fun e w' => e = .returned (.tuple #[]) ∧ w = w' := by
  go_enter Try.func30, Try.ntmps30
  go_wp2_with fail
  refine bodyPost_ret (results_none rfl _ _ _) rfl ?_
  exact ⟨rfl, rfl⟩
end
end Go.Proofs.Ytcfpdflaabfdkaa

namespace Go.Proofs.Ytcfpdflaabfdkaa
open Go.RowKit Go.Maps

theorem slAt_z {w : World} {b : Nat} {c : Nat} (h : w.cell? ⟨b, 0, none⟩ = some (.int .i64 (c : Int))) (hb : b < w.heap.size) : SlAt encZ 1 w (some ⟨b, 0, none⟩) [c] := by
  refine .inr ⟨b, 0, rfl, hb, fun j x hj i v hi => ?_⟩
  match j, hj with
  | 0, hj =>
    match i, hi with
    | 0, hi =>
      simp at hj
      subst hj
      simp [encZ] at hi
      subst hi
      exact h
theorem one_flatZ (l : List Nat) : ∀ u ∈ flatL encZ l, u.oneCell' = true := by
  intro u hu
  rw [flatZ] at hu
  obtain ⟨a, _, rfl⟩ := List.mem_map.1 hu
  rfl
set_option maxRecDepth 100000 in
set_option maxHeartbeats 2000000 in
theorem sizes1_any (s b bl c base : Nat) (l : List Nat) (v : Value) (G : Nat → Option Value) (W : World) (hs : Strp s b 1 W) (hM : MapV W b c G c) (hb : Vb W bl 39 v) (hown : W.ownsRow base 3 1 v l.length (flatL encZ l)) (hbl : bl < base) (hbase : base ≤ W.heap.size) (hl : l.length ≤ 100) :
    Calls Try.prog 31 #[.pointer (some ⟨s, 0, none⟩), .pointer (some ⟨bl, 0, none⟩)] W fun e w' => e = .returned (.tuple #[]) ∧ KeptO (fun k => k = bl ∨ base ≤ k) W w' ∧
      ∃ v', Vb w' bl 39 v' ∧ w'.ownsRow base 3 1 v' (l ++ [c]).length (flatL encZ (l ++ [c])) := by
  obtain ⟨i0, hi, hz0, hz1, hz2⟩ := info_parts infoI
  obtain ⟨A', c', rfl⟩ := own_any hown
  have hlen := Lib.hid (fun (W' : World) (h : W'.heap[b]? = W.heap[b]?) => (hM.at_ h).len (t := 64) Try.underlying64 3)
  have hl0 := hlen.out W.drew rfl
  have c2 := hs.mp
  have b0 := hb.cell
  have b1 := hb.fz
  have l1 := hs.lt
  have l2 := hb.lt
  have HO := Lib.hid hown
  have HB := Lib.hid hb
  clear hlen hs hM hown hb
  go_enter Try.func31, Try.ntmps31
  go_upto_region 0 with (fail)
  go_region_law (first
    | (refine step_append_slm _ (by rfl) _ _ _ (by rfl) base 3 i0 _ 8 Try.underlying39 hi hz0 hz1 hz2 rfl (by decide) _ l.length _ (by rfl) (own_below HO.out (by repeat (first | assumption | exact Below.refl _ _ | refine belowDrawN ?_ _ | refine belowDraw ?_ | refine belowAlloc ?_ _))) _ [c] _ _ (by rfl) (by rfl) encZ_len (slAt_z (by first | exact cell_at1 _ _ _ (by rfl) | exact cell_at1 _ _ _ (by simp)) (by simp)) (one_flatZ _) (by simp only [List.length_singleton, maxLen]; omega) (by simp only [List.length_singleton]; omega) (by simp; omega) ?_
       intro v1 w1 hown1 hgrow1
       obtain ⟨A1, k1, rfl⟩ := own_any hown1
       have hb1 : Below W.heap.size W (W.alloc (.cells #[.int .i64 (c : Int)] 3)).drew := belowDraw (below_al W _)
       have HW1 : Vb w1 bl 39 (.slice A' l.length c') := (hgrow1.block bl (by first | exact Nat.lt_of_lt_of_le HB.out.lt hb1.size) (fun e => by have := (HO.out.lt bl e.symm).1; omega)).trans (HB.out.below hb1)
       have q0 := HW1.cell
       have q1 := HW1.fz
       have HW2 := Lib.hid HW1
       have HO2 := Lib.hid hown1
       have HK2 : Hid (KeptO (fun k => k = bl ∨ base ≤ k) W w1) := Lib.hid ((KeptO.of_below (S := fun k => k = bl ∨ base ≤ k) hb1).trans (KeptO.of_grown (S := fun k => k = bl ∨ base ≤ k) hgrow1 fun r hr => .inr (HO.out.lt r hr).1) fun _ e => .inl e)
       clear hown1 hgrow1 HW1 hb1))
  all_goals
    go_wp2_with fail
    go_end0
    refine ⟨rfl, HK2.out.trans ((KeptO.set _ bl 0 _).mono (S' := fun k => k = bl ∨ base ≤ k) fun k e => .inl e) fun _ e => .inl e, _, HW2.out.set _, ?_⟩
    rw [List.length_append, flatL_append]
    exact own_keptO HO2.out (KeptO.set _ bl 0 _) fun k e => by subst e; exact hbl
end Go.Proofs.Ytcfpdflaabfdkaa

namespace Go.Proofs.Ytcfpdflaabfdkaa
open Go.RowKit Go.Maps

section
variable {R : TR} {g n : Nat} {S T : Nat → Prop} {X : Nat → Option MI} {w w' : World}
/-- A stripe locked and unlocked, nothing else of the table changed. -/
theorem TbX.again (i : Nat) (hi : i < n) (h : TbX R g n S X w) (hk : KeptO T w w') (hT : ∀ k, T k → S k → k = R.ss i) (hst : Strp (R.ss i) (R.bb i) 0 w') : TbX R g n S X w' := by
  obtain ⟨c, hc⟩ := h.mp i hi
  exact h.change i hi hk (fun k h1 h2 => .inl (hT k h1 h2)) hst ⟨c, hc.at_ (hk.block _ hc.lt fun e => h.sb _ _ hi hi (hT _ e (h.Kb hi)).symm)⟩ (fun _ _ => rfl) (fun _ => id) (fun k hk2 => Nat.lt_of_lt_of_le (h.lt k hk2) hk.size) fun u x hx => h.body hk (fun k h1 h2 => .inr (.inr ⟨i, hi, .inl (hT k h1 h2)⟩)) hx
end
section
variable {g n : Nat} {S : Nat → Prop} {L : List MI} {w : World}
set_option maxRecDepth 100000 in
set_option maxHeartbeats 1000000 in
theorem tsizes_any (h : Tb g n S L w) (_ : L.length ≤ 100000) : Calls Try.prog 15 #[.pointer (some ⟨g, 0, none⟩)] w fun e w' => ∃ v S', e = .returned v ∧ w'.ownsRow w.heap.size 3 1 v (szM L n).length (flatL encZ (szM L n)) ∧ Tb g n S' L w' ∧ More S S' w ∧ KeptO S w w' := by
  obtain ⟨hG, R, X, hX, hL⟩ := h
  have hn16 := hX.hn.2
  have hlenS : (szM L n).length = n := szM_len L n
  have hw1 : (w.alloc (.cells #[.slice none 0 0] 39)).heap.size = w.heap.size + 1 := by simp
  have HC : Hid (Calls Try.prog 30 #[.pointer (some ⟨g, 0, none⟩), .func (.func 31) #[] #[.pointer (some ⟨w.heap.size, 0, none⟩)]] (w.alloc (.cells #[.slice none 0 0] 39)) fun e w' => e = .returned (.tuple #[]) ∧
      ∃ v, Vb w' w.heap.size 39 v ∧ Hid (w'.ownsRow (w.heap.size + 1) 3 1 v (szM L n).length (flatL encZ (szM L n))) ∧ Hid (TbX R g n S X w') ∧ Hid (KeptO S w w')) := by
    refine Lib.hid ?_
    refine (each_any 31 _ (hX.below (below_al w _)) (fun args w => by simp [go_sem])
      (fun i W => TbX R g n S X W ∧ (∃ v, Vb W w.heap.size 39 v ∧ W.ownsRow (w.heap.size + 1) 3 1 v ((szM L n).take i).length (flatL encZ ((szM L n).take i))) ∧ KeptO (fun k => S k ∨ w.heap.size ≤ k) w W ∧ w.heap.size + 1 ≤ W.heap.size) ?_ (fun i W h => h.1) ?_).mono ?_
    · exact ⟨hX.below (below_al w _), ⟨_, Vb.new _ _ _, World.ownsRow_nil _ _ _ _⟩, KeptO.of_below (below_al w _), by omega⟩
    · rintro i hi W ⟨hXW, ⟨v, hb, hown⟩, hkW, hsz⟩
      have hi2 : i < (szM L n).length := by omega
      have hs := hXW.Ks hi
      have hss : R.ss i < w.heap.size := hX.lt _ (hX.Ks hi)
      have K0 := KeptO.set W (R.ss i) 0 (.int .i32 1)
      have hM := (hXW.cnt hL hG hi hi2).at_ (K0.block _ (hXW.cnt hL hG hi hi2).lt fun e => hX.sb _ _ hi hi e.symm)
      have S0 := (hXW.st i hi).set 1
      refine (sizes1_any (R.ss i) (R.bb i) w.heap.size ((szM L n)[i]) (w.heap.size + 1) ((szM L n).take i) v (GX X n i) _ S0 hM (hb.kept K0 (by omega)) (own_keptO hown K0 fun k e => by omega) (by omega) (by simpa using hsz) (by rw [List.length_take]; omega)).mono ?_
      rintro e w' ⟨rfl, hk, v', hb', hown'⟩
      have S1 := S0.kept hk (by rintro (e | e) <;> omega)
      have KT : KeptO (fun k => k = R.ss i ∨ w.heap.size ≤ k) W (w'.setCell ⟨R.ss i, 0, none⟩ (.int .i32 0)) := by
        refine ((K0.mono fun k e => .inl e).trans (hk.mono (S' := fun k => k = R.ss i ∨ w.heap.size ≤ k) ?_) fun _ e => .inl e).trans ((KeptO.set _ (R.ss i) 0 _).mono (S' := fun k => k = R.ss i ∨ w.heap.size ≤ k) fun k e => .inl e) fun _ e => .inl e
        rintro k (e | e) <;> right <;> omega
      refine ⟨rfl, S1, hXW.again i hi KT ?_ (S1.set 0), ⟨v', hb'.kept (KeptO.set _ (R.ss i) 0 _) (by omega), ?_⟩, hkW.trans KT ?_, Nat.le_trans hsz KT.size⟩
      · rintro k (e | e) j
        · exact e
        · have := hX.lt k j
          omega
      · rw [List.take_succ_eq_append_getElem hi2]
        exact own_keptO hown' (KeptO.set _ (R.ss i) 0 _) fun k e => by omega
      · rintro j (e | e)
        · exact .inl (.inl (e ▸ hs))
        · exact .inl (.inr e)
    · rintro e w' ⟨rfl, k1, ⟨v, k2, k3⟩, k4, -⟩
      rw [List.take_of_length_le (by omega)] at k3
      exact ⟨rfl, v, k2, k3, k1, k4.os, k4.tape, k4.output, k4.size, fun k hk hS => k4.block k hk fun e => e.elim hS fun e => by omega⟩
  clear hX hlenS
  generalize (szM L n).length = q at *
  go_enter Try.func15, Try.ntmps15
  go_wp2_with fail
  refine HC.out.mono ?_
  rintro e w1 ⟨rfl, v, k1, k2, k3, k4⟩
  have c0 := k1.cell
  clear HC k1
  obtain ⟨A, c, rfl⟩ := own_any k2.out
  go_wp2_with fail
  go_ret
  exact ⟨_, S, rfl, own_mono k2.out (Nat.le_succ _), ⟨hG, R, X, k3.out, hL⟩, More.refl _ _, k4.out⟩
set_option maxRecDepth 100000 in
theorem tsizes_nil (w : World) : Calls Try.prog 15 #[.pointer none] w fun e w' => ∃ A c, e = .returned (.slice A 0 c) ∧ Below w.heap.size w w' := by
  have HC := Lib.hid (fun F cs W => each_nil F cs W)
  go_enter Try.func15, Try.ntmps15
  go_wp2_with fail
  refine (HC.out _ _ _).mono ?_
  rintro e w1 ⟨rfl, rfl⟩
  go_wp2_with fail
  go_ret
  exact ⟨_, _, rfl, below_al _ _⟩
end
end Go.Proofs.Ytcfpdflaabfdkaa
