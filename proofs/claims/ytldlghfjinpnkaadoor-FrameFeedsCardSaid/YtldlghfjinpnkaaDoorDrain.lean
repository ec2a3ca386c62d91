/- The laws' own: drain. -/
import Derived.Test.YtldlghfjinpnkaaDoorAlive5
namespace Go.Proofs.YtldlghfjinpnkaaDoor
open Go.RowKit

/-- What drain answers: all frames that are there; their data lie in new rows. -/
def DrPost (B bs g : Nat) (R : List UInt8) (k : Nat) (w : World) (e : Ending) (w' : World) : Prop :=
  ∃ v vs fs R' k', e = .returned v ∧ w'.ownsRow w.heap.size 42 2 v fs.length (flatL enc2 vs) ∧ FrsAt (w.heap.size ≤ ·) w' vs fs ∧ Runs R k fs R' k' ∧ Done R' k' ∧ Spl B bs g R' k' w' ∧ w.grownBy w' (some bs)

theorem cm_add2 {P : Nat → Prop} {T : TypeId} (hT : T ≠ 5) {base : Nat} {wr W w2 : World} {v v' dv : Value} {vs : List (Int × Value)} {fs : List Fr} {f : Fr} {x : Int} (hx : x = (f.kind : Int)) (hOW : W.ownsRow base T 2 v fs.length (flatL enc2 vs)) (hF : FrsAt P wr vs fs) (hW : KeepsT 5 wr W) (hd : FrD P W dv f.data)
    (hO2 : w2.ownsRow base T 2 v' (fs.length + [(x, dv)].length) (flatL enc2 vs ++ flatL enc2 [(x, dv)])) (hg : W.grownBy w2 v.ownBlock) :
    w2.ownsRow base T 2 v' (fs ++ [f]).length (flatL enc2 (vs ++ [((f.kind : Int), dv)])) ∧ FrsAt P w2 (vs ++ [((f.kind : Int), dv)]) (fs ++ [f]) ∧ KeepsT 5 W w2 := by
  subst hx
  have hk := keeps_row (T := 5) hOW hT hg
  refine ⟨?_, ((hF.keeps hW).append (.one hd)).keeps hk, hk⟩
  rw [flatL_append, List.length_append]
  exact hO2

theorem Spl.keeps {B bs g k : Nat} {R : List UInt8} {w w' : World} (h : Spl B bs g R k w) (h5 : KeepsT 5 w w') (h49 : KeepsT 49 w w') (hB : ∀ i, i < B → w'.heap[i]? = w.heap[i]?) : Spl B bs g R k w' := by
  obtain ⟨lo, hi, env, A, c, hb, st⟩ := h
  refine ⟨lo, Nat.le_trans hi h5.1, env.same hB, A, c, hb.keeps h5, ?_⟩
  rcases st with ⟨a, h1, h2⟩ | ⟨ln, h2⟩
  · exact .inl ⟨a, h1, ⟨h49.2 _ _ _ h2.blk⟩⟩
  · exact .inr ⟨ln, ⟨h49.2 _ _ _ h2.blk⟩⟩
theorem own_ne {w : World} {base size n i : Nat} {T U : TypeId} {v : Value} {xs : List Value} {cs : Array Value} {fr : Nat × Nat} (h : w.ownsRow base T size v n xs) (hi : w.heap[i]? = some (.cells cs U fr)) (hT : U ≠ T) : v.ownBlock = none ∨ v.ownBlock ≠ some i := by
  rcases h.2 with ⟨rfl, _⟩ | ⟨g, cap, cur, rfl, _, hgb, _⟩
  · exact .inl rfl
  · refine .inr fun e => ?_
    obtain rfl : g = i := by simpa [Value.ownBlock] using e
    rw [hgb] at hi
    simp at hi
    exact hT hi.2.1.symm

set_option maxRecDepth 100000 in
set_option maxHeartbeats 4000000 in
theorem drain_any (B bs g most : Nat) (R : List UInt8) (k : Nat) (hR : R.length ≤ 100000) (hm : R.length < most) (hm2 : most ≤ 1000000) (hsh : ∀ fs R' k', Runs R k fs R' k' → endOf R' k' = none → R'.length ≤ k' + 8192) (w : World) (h : Spl B bs g R k w) (hbs : bs < w.heap.size) :
    Calls Tryd.prog 11 #[.pointer (some ⟨bs, 0, none⟩), .int .i64 (most : Int)] w (DrPost B bs g R k w) := by
  obtain ⟨i0, hi, hz0, hz1, hz2⟩ := info_parts infoF4
  have NX := Lib.hid (fun (fs : List Fr) (R' : List UInt8) (k' : Nat) (hr : Runs R k fs R' k') (x : World) (hs : Spl B bs g R' k' x) (hb : bs < x.heap.size) => next_any B bs g R' k' (by have := hr.len.2.1; omega) x hs hb (hsh fs R' k' hr))
  have hz1' := hz1
  have hwB : B ≤ w.heap.size := h.hi
  have HS := Lib.hid h
  clear h hsh hz1
  go_enter Tryd.func11, Tryd.ntmps11
  go_wp2_with fail
  go_loopw [5, 9] (fun v i wr => ∃ (vs : List (Int × Value)) (fs : List Fr) (R' : List UInt8) (k' : Nat), fs.length ≤ most ∧ i = .int .i64 ((fs.length : Nat) : Int) ∧ bs < wr.heap.size ∧ Hid (wr.ownsRow w.heap.size 42 2 v fs.length (flatL enc2 vs)) ∧ Hid (FrsAt (w.heap.size ≤ ·) wr vs fs) ∧ Hid (Runs R k fs R' k') ∧ Hid (Spl B bs g R' k' wr) ∧ Hid (w.grownBy wr (some bs))) (fun _ i _ => most - (intOf i).toNat)
  case atStart => exact ⟨[], [], R, k, Nat.zero_le _, rfl, hbs, World.ownsRow_nil _ _ _ _, .nil, .nil _ _, HS, World.grownBy.refl _ _⟩
  case round =>
    obtain ⟨vs, fs, R', k', hfm, rfl, hz, hO, hF, hRn, hS, hG⟩ := hrel
    obtain ⟨Av, cv, hv⟩ := own_any hO.out
    subst hv
    have hcount : 2 * fs.length ≤ R.length := by have := hRn.out.len.1; omega
    have hlt : fs.length < most := by omega
    have NX := Lib.hid (NX.out fs R' k' hRn.out wr hS.out hz)
    obtain ⟨nf, hnf⟩ : ∃ nf, fs.length = nf := ⟨_, rfl⟩
    rw [hnf] at hcount hlt hO hfm ⊢
    have HNF := Lib.hid hnf
    clear hnf
    go_wp2_with fail
    refine NX.out.mono ?_
    rintro e w1 hp
    obtain ⟨x, A, m, c, b, he, hq⟩ := hp.form
    clear hp
    subst he
    have hgr := NxRes.grown hq
    have hblk := hS.out.blk
    obtain ⟨cs, fr, hb⟩ := hblk
    have HO1 := Lib.hid (hO.out.kept hgr (own_ne hO.out hb (by decide)))
    have HF1 := Lib.hid (hF.out.keeps (keeps_grown hgr hb (by decide)))
    have HG1 := Lib.hid (hG.out.trans hgr)
    have HQ : Hid (NxRes B bs g R' k' wr x (.slice A m c) b w1) := Lib.hid hq
    have hz1 := hgr.size
    have hwz := hG.out.size
    clear hq hgr hb hS hG hO hF NX
    cases b with
    | false =>
      go_wp2_with fail
      go_ret
      obtain ⟨_, _, _, _, _, h3, _⟩ | ⟨hdn, _, _, _, hs1, _⟩ := HQ.out
      · cases h3
      · have hba := below_al w1 (.cells #[.int .i64 x, .slice A m c] 42)
        refine ⟨_, vs, fs, R', k', rfl, ?_, HF1.out.keeps (keeps_below hba), hRn.out, hdn, hs1.grow hba, HG1.out.trans (grown_of_below hba)⟩
        rw [HNF.out]
        exact own_below HO1.out hba
    | true =>
      have hcase : ∃ f R'' k'', stepF R' k' = some (f, R'', k'') ∧ x = (f.kind : Int) ∧ FrD (wr.heap.size ≤ ·) w1 (.slice A m c) f.data ∧ Spl B bs g R'' k'' w1 := by
        rcases HQ.out with ⟨f, R'', k'', h1, h2, _, h3, h4, _⟩ | ⟨_, _, _, h4, _⟩
        · exact ⟨f, R'', k'', h1, h2, h3, h4⟩
        · cases h4
      obtain ⟨f, R'', k'', hst, rfl, hfd, hs1⟩ := hcase
      have hb2 : Below w1.heap.size w1 ((w1.alloc (.cells #[.int .i64 (f.kind : Int), .slice A m c] 42)).alloc (.cells #[.int .i64 (f.kind : Int), .slice A m c] 42)) := belAlloc (below_al _ _) _
      have HO2 := Lib.hid (own_below HO1.out hb2)
      have HD2 := Lib.hid ((hfd.keeps (keeps_below hb2)).imp (Q := (w.heap.size ≤ ·)) (fun y hy => Nat.le_trans hwz hy))
      have HS2 := Lib.hid (hs1.grow hb2)
      have HG2 := Lib.hid (HG1.out.trans (grown_of_below hb2))
      have HB2 := Lib.hid hb2
      have hzz : w.heap.size ≤ ((w1.alloc (.cells #[.int .i64 (f.kind : Int), .slice A m c] 42)).alloc (.cells #[.int .i64 (f.kind : Int), .slice A m c] 42)).heap.size := HG2.out.size
      have HST := Lib.hid hst
      have hSl := slAt_one2 (w1.alloc (.cells #[.int .i64 (f.kind : Int), .slice A m c] 42)) (f.kind : Int) (.slice A m c) 42
      rw [World.size_alloc] at hSl
      have HSl := Lib.hid hSl
      clear hb2 hfd hs1 hst hSl HQ
      go_wp2_with (at_builtin; refine wpList_append_sl _ rfl (.tmp 19) (.tmp 21) 27 rfl w.heap.size 42 i0 _ 32 Tryd.underlying27 hi hz0 hz1' hz2 rfl (by decide) _ nf (flatL enc2 vs) rfl HO2.out _ [((f.kind : Int), Value.slice A m c)] 1 rfl enc2_len HSl.out (by intro u hu; simp [flatL, enc2] at hu; rcases hu with rfl | rfl <;> rfl) (by simp only [List.length_singleton, maxLen]; omega) (by simp only [List.length_singleton]; omega) hzz ?_; intro v2 w2 hv2 hg2)
      have hO3 := HO2.out
      have hv2' := hv2
      rw [← HNF.out] at hv2'
      obtain ⟨q1, q2, q3⟩ := cm_add2 (by decide) (f := f) rfl (HNF.out.symm ▸ HO2.out) HF1.out (keeps_below HB2.out) HD2.out hv2' hg2
      have q4 := keeps_row (T := 49) HO2.out (by decide) hg2
      have q5 : w.grownBy w2 (some bs) := HG2.out.andThen hg2 (fun j hj => .inl (HO2.out.lt j hj).1)
      have q6 : Spl B bs g R'' k'' w2 := HS2.out.keeps q3 q4 (fun i hi2 => hg2.block i (by have := HS2.out.hi; omega) (fun e => by
        have := (HO2.out.lt i e.symm).1
        have := HS2.out.lo
        have := hwB
        omega))
      have Q1 := Lib.hid q1
      have Q2 := Lib.hid q2
      have Q3 := Lib.hid (hRn.out.snoc HST.out)
      have Q5 := Lib.hid q5
      have Q6 := Lib.hid q6
      have hz2 := q5.size
      have hl2 : (fs ++ [f]).length = nf + 1 := by rw [List.length_append, HNF.out]; rfl
      have HL2 := Lib.hid hl2
      clear q1 q2 q3 q4 q5 q6 hv2 hv2' hg2 hO3 hl2
      go_wp2_with fail
      go_roundw
      case rel => exact ⟨_, fs ++ [f], R'', k'', by rw [HL2.out]; omega, by rw [HL2.out]; go_num, by omega, Q1, Q2, Q3, Q6, Q5⟩
      case measure => simp [intOf]; omega
end Go.Proofs.YtldlghfjinpnkaaDoor
