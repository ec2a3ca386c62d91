/- The lock table: Release; New. -/
import Derived.Test.YtpfplniokjkcbaaLkU
namespace Go.Proofs.Ytpfplniokjkcbaa
open Go.RowKit Go.Maps

section
variable {R : LR} {g q : Nat} {S : Nat → Prop} {L : List Int} {w w' : World}
/-- Behind Release: where the table lies. -/
theorem LkX.rel (h : LkX R g S L q w) (o : Int) (hk : KeptO (fun b => b = R.ob ∨ b = R.hb) w w') {c1 c2 : Nat} (l1 : c1 ≤ q) (m1 : MapZ w' R.ob c1 (GO (relL L o)) c1) (l2 : c2 ≤ q) (m2 : MapZ w' R.hb c2 (GH R (relL L o)) c2) : LkX R g S (relL L o) q w' := by
  have hn : (relL L o).length = L.length := by unfold relL; rw [List.length_map]
  have hp : ∀ p, heldL (relL L o) p ≠ [] → heldL L p ≠ [] := fun p e => by
    rw [heldL_rel] at e
    split at e
    · exact absurd rfl e
    · exact e
  refine ⟨by rw [hn]; exact h.len, fun k e => Nat.lt_of_lt_of_le (h.lt k e) hk.size, h.sg, h.so, h.sh, fun p e => h.sr p (hp p e), ?_, h.go, h.gh, h.oh, fun p e => h.rk p (hp p e), fun p p' e e' => h.rr p p' (hp p e) (hp p' e'), fun p => ?_, ⟨c1, l1, m1⟩, ⟨c2, l2, m2⟩⟩
  · rw [hn]
    exact hk.heap h.tb fun e => e.elim h.go h.gh
  · by_cases e : heldL (relL L o) p = []
    · unfold LR.val
      rw [if_pos e, e]
      exact World.ownsRow_nil _ _ _ _
    · have hv : R.val (relL L o) p = R.val L p ∧ heldL (relL L o) p = heldL L p := by
        have e2 := heldL_rel L o p
        split at e2
        · exact absurd e2 e
        · unfold LR.val
          rw [e2]
          exact ⟨rfl, rfl⟩
      rw [hv.1, hv.2]
      exact own_blk (h.row p) fun e => hk.block _ (h.lt _ (h.sr p e)) fun e2 => e2.elim (h.rk p e).2.1 (h.rk p e).2.2
theorem GH_rel (o x : Int) : GH R (relL L o) x = if x = o then none else GH R L x := by
  unfold GH LR.val
  rw [heldL_rel]
  split <;> simp
/-- What the map of the owners holds when the first k of the owner's locks are deleted. -/
def GOk (L : List Int) (l : List Nat) (k : Nat) (x : Int) : Option Value := if ∃ i ∈ l.take k, x = (i : Int) then none else GO L x
theorem GOk_zero (l : List Nat) (x : Int) : GOk L l 0 x = GO L x := by
  unfold GOk
  rw [if_neg]
  rintro ⟨i, hi, _⟩
  simp at hi
theorem GOk_succ {l : List Nat} {k : Nat} (hk : k < l.length) (x : Int) : GOk L l (k + 1) x = if x = (l[k] : Int) then none else GOk L l k x := by
  unfold GOk
  rw [List.take_succ_eq_append_getElem hk]
  by_cases e : x = (l[k] : Int)
  · rw [if_pos e, if_pos ⟨l[k], List.mem_append_right _ (List.mem_singleton.2 rfl), e⟩]
  · rw [if_neg e]
    by_cases e2 : ∃ i ∈ l.take k, x = (i : Int)
    · obtain ⟨i, h1, h2⟩ := e2
      rw [if_pos ⟨i, List.mem_append_left _ h1, h2⟩, if_pos ⟨i, h1, h2⟩]
    · rw [if_neg e2, if_neg]
      rintro ⟨i, h1, h2⟩
      rcases List.mem_append.1 h1 with h1 | h1
      · exact e2 ⟨i, h1, h2⟩
      · obtain rfl : i = l[k] := by simpa using h1
        exact e h2
theorem GOk_all (o x : Int) : GOk L (heldL L o) (heldL L o).length x = GO (relL L o) x := by
  unfold GOk GO
  rw [List.take_length, ownL_rel]
  by_cases e : ∃ i ∈ heldL L o, x = (i : Int)
  · rw [if_pos e]
    obtain ⟨i, h1, rfl⟩ := e
    have h0 : 0 ≤ o := (mem_heldL.1 h1).1
    have := (mem_held h0).1 h1
    have e3 : (if ownL L (i : Int) = o ∧ 0 ≤ o then (-1 : Int) else ownL L i) = -1 := if_pos ⟨this, h0⟩
    rw [e3, if_neg (by decide)]
  · rw [if_neg e]
    by_cases e2 : ownL L x = o ∧ 0 ≤ o
    · exfalso
      have := ownL_lt (L := L) (x := x) (by omega)
      refine e ⟨x.toNat, (mem_held e2.2).2 ?_, by omega⟩
      rw [Int.toNat_of_nonneg this.1]
      exact e2.1
    · rw [if_neg e2]
/-- A round's state. -/
def RelW (R : LR) (L : List Int) (l : List Nat) (q k : Nat) (w1 W : World) : Prop := KeptO (fun b => b = R.ob) w1 W ∧ ∃ c, c ≤ q ∧ MapZ W R.ob c (GOk L l k) c
theorem RelW.step {l : List Nat} {k : Nat} {W : World} (h : RelW R L l q k w W) (hk : k < l.length) (hl : I64 (l[k] : Int)) :
    ∃ W', (Builtin.delete_ #[59, 3] 0 #[.map (some R.ob), .int .i64 (l[k] : Int)]).run Try.prog W = .ok (.tuple #[]) W' ∧ RelW R L l q (k + 1) w W' := by
  obtain ⟨h1, c, h2, m⟩ := h
  obtain ⟨W', hrun, m2, g2⟩ := m.drop (t := 59) Try.underlying59 hl 0
  refine ⟨W', hrun, h1.trans (KeptO.of_grown (S := fun b => b = R.ob) g2 fun r e => by cases e; rfl) fun _ e => .inl e, _, ?_, m2.tight.congr fun x _ => GOk_succ hk x⟩
  split <;> omega
set_option maxRecDepth 100000 in
set_option maxHeartbeats 1000000 in
theorem lkrel_x (o : Int) (ho : I64 o) (h : LkX R g S L q w) :
    Calls Try.prog 13 #[.pointer (some ⟨g, 0, none⟩), .int .i64 o] w fun e w' => e = .returned (.int .i64 ((heldL L o).length : Nat)) ∧ LkX R g S (relL L o) q w' ∧ KeptO S w w' := by
  obtain ⟨c0, c1, c2, c3⟩ := h.cells
  have hl := h.len
  have hn := heldL_len L o
  have hlk : (Instr.lookup 60 (.map (some R.hb)) (.int .i64 o) false).run Try.prog w = .ok (R.val L o) w := h.lookH ho 0
  obtain ⟨cc, l2, m2⟩ := h.mh
  obtain ⟨co, l1, m1⟩ := h.mo
  obtain ⟨w1, hdel, m3, g3⟩ := m2.drop (t := 60) Try.underlying60 ho 0
  obtain ⟨A, c, hv, hS, _⟩ := h.sl o
  obtain ⟨A', c', hv', hA⟩ := R.val_any L o
  rw [hv] at hlk hv'
  injection hv' with e1 e2 e3
  subst e1; subst e3
  have k1 : KeptO (fun b => b = R.hb) w w1 := KeptO.of_grown g3 fun r e => by cases e; rfl
  have hOut : ∀ b, b = R.ob ∨ b = R.hb → Out (fun k => k = b) A := fun b hb a ha e => by
    obtain ⟨h1, h2⟩ := hA a ha
    rw [h2] at e
    rcases hb with hb | hb
    · exact (h.rk o h1).2.1 (e.trans hb)
    · exact (h.rk o h1).2.2 (e.trans hb)
  have hlg := h.lt _ h.sg
  have hmem := Lib.hid (show ∀ i ∈ heldL L o, I64 (i : Int) from fun i hi => by
    obtain ⟨_, h1, _⟩ := mem_heldL.1 hi
    exact ⟨by omega, by omega⟩)
  have H0 := Lib.hid (show RelW R L (heldL L o) q 0 w1 w1 from ⟨KeptO.refl _ _, co, l1, (m1.at_ (k1.block _ (h.lt _ h.so) h.oh)).congr fun x _ => GOk_zero _ x⟩)
  have HE := Lib.hid (fun W (hW : RelW R L (heldL L o) q (heldL L o).length w1 W) => (by
    obtain ⟨h1, c, h2, m⟩ := hW
    have kk : KeptO (fun b => b = R.ob ∨ b = R.hb) w W := (k1.mono fun k e => .inr e).trans (h1.mono (S' := fun b => b = R.ob ∨ b = R.hb) fun k e => .inl e) fun _ e => .inl e
    refine ⟨h.rel o kk h2 (m.congr fun x _ => (GOk_all o x).symm) ?_ ((m3.tight.at_ (h1.block _ m3.lt fun e => h.oh e.symm)).congr fun x _ => GH_rel o x), kk.mono fun k e => e.elim (fun e => e ▸ h.so) fun e => e ▸ h.sh⟩
    split <;> omega : LkX R g S (relL L o) q W ∧ KeptO S w W))
  have HS := Lib.hid (hS.keptO (hOut _ (.inr rfl)) k1)
  have HO := Lib.hid (hOut _ (.inl rfl))
  have d1 := k1.cell (a := ⟨g, 1, none⟩) hlg c1 h.gh
  have D1 := Lib.hid (fun W (hW : KeptO (fun b => b = R.ob) w1 W) => hW.cell (a := ⟨g, 1, none⟩) (Nat.lt_of_lt_of_le hlg k1.size) d1 h.go)
  have hn2 : (heldL L o).length ≤ 65536 := by omega
  clear h m1 m2 m3 k1 g3 hS hOut hA hv d1 hlg hl hn l1 l2 ho c3 c0
  generalize relL L o = L' at *
  generalize heldL L o = l at *
  go_enter Try.func13, Try.ntmps13
  go_wp2_with fail
  go_loopw [23] (fun i wr => ∃ k : Nat, k ≤ l.length ∧ i = .int .i64 k ∧ Hid (RelW R L l q k w1 wr)) (fun i _ => l.length - (intOf i).toNat)
  case atStart => exact ⟨0, Nat.zero_le _, rfl, H0⟩
  case round =>
    obtain ⟨k, hk, rfl, HR⟩ := hrel
    clear H0 hlk hdel c1 c2
    have hk0 : (0 : Int) ≤ (k : Int) := by omega
    by_cases hlt : k < l.length
    · obtain ⟨W2, hrun, hnext⟩ := HR.out.step hlt (hmem.out _ (List.getElem_mem hlt))
      have HN := Lib.hid hnext
      have d1 := D1.out wr HR.out.1
      obtain ⟨b, off, rfl, _, hx⟩ := (HS.out.keptO HO.out HR.out.1).at_ hlt
      have hc : wr.cell? ⟨b, off + k, none⟩ = some (.int .i64 (l[k] : Int)) := by simpa [encK] using hx 0 _ rfl
      have hk1 : (k : Int) < ((l.length : Nat) : Int) := by omega
      clear hnext hx HE HS HO hmem D1 HR
      generalize l[k] = x at *
      go_wp2_with fail
      go_roundw
      case rel => exact ⟨k + 1, by omega, by go_num, HN⟩
      case measure => simp [intOf]; omega
    · obtain rfl : k = l.length := by omega
      have HF := Lib.hid (HE.out wr HR.out)
      clear HE HS HO hmem D1 HR
      go_wp2_with fail
      go_ret
      exact ⟨rfl, HF.out⟩
theorem lkrel_any (o : Int) (ho : -9223372036854775808 ≤ o ∧ o ≤ 9223372036854775807) (h : LkT g S L q w) :
    Calls Try.prog 13 #[.pointer (some ⟨g, 0, none⟩), .int .i64 o] w fun e w' => ∃ S', e = .returned (.int .i64 ((heldL L o).length : Nat)) ∧ LkT g S' (relL L o) q w' ∧ More S S' w ∧ KeptO S w w' := by
  obtain ⟨R, h⟩ := h
  refine (lkrel_x o ho h).mono ?_
  rintro e w' ⟨rfl, h1, h2⟩
  exact ⟨S, rfl, ⟨R, h1⟩, More.refl _ _, h2⟩
theorem lkrel_nil (o : Int) (w : World) : Calls Try.prog 13 #[.pointer none, .int .i64 o] w fun e w' => e = .returned (.int .i64 0) ∧ Below w.heap.size w w' := by
  go_enter Try.func13, Try.ntmps13
  go_wp2_with fail
  go_ret
  exact ⟨rfl, Below.refl _ _⟩
set_option maxRecDepth 100000 in
theorem lknew_no (n : Int) (hn : n < 0 ∨ 65536 < n) (w : World) : Calls Try.prog 10 #[.int .i64 n] w fun e w' => e = .returned (.pointer none) ∧ Below w.heap.size w w' := by
  by_cases h : n < 0
  · clear hn
    go_enter Try.func10, Try.ntmps10
    go_wp2_with fail
    go_ret
    exact ⟨rfl, Below.refl _ _⟩
  · have h1 : 65536 < n := by omega
    have h : 0 ≤ n := by omega
    clear hn
    go_enter Try.func10, Try.ntmps10
    go_wp2_with fail
    go_ret
    exact ⟨rfl, Below.refl _ _⟩
set_option maxRecDepth 100000 in
theorem lknew_any (n : Nat) (hn : n ≤ 65536) (w : World) : Calls Try.prog 10 #[.int .i64 (n : Int)] w fun e w' => ∃ g S, e = .returned (.pointer (some ⟨g, 0, none⟩)) ∧ LkT g S (List.replicate n (-1)) 0 w' ∧ (∀ k, S k → w.heap.size ≤ k) ∧ Below w.heap.size w w' := by
  have HF := Lib.hid (fun W (hW : W = ((w.alloc (.map #[] 0)).alloc (.map #[] 0)).alloc (.cells #[.int .i64 (n : Int), .map (some w.heap.size), .map (some (w.heap.size + 1)), .int .i64 0] 67)) => (by
    have M1 : MapZ (w.alloc (.map #[] 0)) w.heap.size 0 (fun _ => none) 0 := MapZ.made w
    have M2 : MapZ ((w.alloc (.map #[] 0)).alloc (.map #[] 0)) (w.heap.size + 1) 0 (fun _ => none) 0 := by
      have := MapZ.made (w.alloc (.map #[] 0))
      simpa using this
    subst hW
    refine ⟨⟨_, LkX.start (g := w.heap.size + 1 + 1) hn (by omega) (by omega) (by omega) ((M1.below (below_al _ _)).below (below_al _ _)) (M2.below (below_al _ _)) (heap_new1 _ _ (by simp))⟩, ?_, belowAlloc (belowAlloc (below_al w _) _) _⟩
    rintro k (rfl | rfl | rfl) <;> omega : LkT (w.heap.size + 1 + 1) (fun k => k = w.heap.size + 1 + 1 ∨ k = w.heap.size ∨ k = w.heap.size + 1) (List.replicate n (-1)) 0 W ∧ (∀ k, (k = w.heap.size + 1 + 1 ∨ k = w.heap.size ∨ k = w.heap.size + 1) → w.heap.size ≤ k) ∧ Below w.heap.size w W))
  have h0 : (0 : Int) ≤ (n : Int) := by omega
  have h1 : ¬ (65536 : Int) < (n : Int) := by omega
  clear hn
  have hmm := @run_makeMap Try.prog
  go_enter Try.func10, Try.ntmps10
  go_wp2_with fail
  go_ret
  exact ⟨_, rfl, _, HF.out _ rfl⟩
end
end Go.Proofs.Ytpfplniokjkcbaa
