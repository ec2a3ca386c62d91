/- index: Append. -/
import Derived.Test.YtkehlknnonppjaaIx
namespace Go.Proofs.Ytkehlknnonppjaa
open Go.RowKit

section
variable {α : Type} {enc : α → List Value} {size : Nat} {P : Program} (w : World)
/-- The append of a slice onto an own row, with what is known of the row's block. -/
theorem wpList_append_slf {ops : Array Oper} {rest : List Oper} {o : Oper} {a : Act} {Q : Exit → Act → World → Prop} (hgd : o.guard = none) (s x : Operand) (t : TypeId)
    (ho : o.op = .call { callee := .builtin .append, args := #[s, x], argTypes := #[t, t] })
    (base : Nat) (e : TypeId) (i : TypeInfo) (z : Value) (bytes : Nat) (ht : P.underlying t = some (.slice e)) (hi : P.info? e = some i) (hz : i.zero = some z)
    (hsize : i.size = size) (hby : i.bytes = bytes) (hzs : z.cells.size = size) (hsz : 0 < size)
    (v : Value) (n : Nat) (xs : List Value) (hs : a.eval s = v) (hown : w.ownsRow base e size v n xs)
    (ad : Addr) (l : List α) (c : Nat) (hx : a.eval x = .slice (some ad) l.length c) (hk : ∀ x, (enc x).length = size) (hS : SlAt enc size w (some ad) l) (h1 : ∀ u ∈ flatL enc l, u.oneCell' = true)
    (h63 : n + l.length ≤ maxLen) (hbytes : (n + l.length) * bytes ≤ 140737488355328) (hbase : base ≤ w.heap.size)
    (h : ∀ v' w', w'.ownsRow base e size v' (n + l.length) (xs ++ flatL enc l) → w.grownBy w' v.ownBlock → (v'.ownBlock = v.ownBlock ∨ v'.ownBlock = some w.heap.size) → wpList P ops Q rest (a.put o.dst v') w') : wpList P ops Q (o :: rest) a w := by
  have hcells : ∀ j u, (flatL enc l)[j]? = some u → w.cell? (ad.add j) = some u := by
    intro j u hu
    rcases hS with rfl | ⟨b, off, hA, _, hc⟩
    · simp [flatL] at hu
    · injection hA with hA
      subst hA
      obtain ⟨q, r, x, rfl, h2, h3⟩ := flatL_find hk l j u hu
      have := hc q x h2 r u h3
      rw [Addr.add_lit, ← Nat.add_assoc]
      exact this
  obtain ⟨v', w', hrun, h2, h3, _, h4⟩ := run_append_own_at (P := P) w base t o.type e i z size bytes ht hi hz hsize hby hzs hsz v n xs hown ad l.length c (flatL enc l) (flatL_length hk l) hcells h1 h63 hbytes hbase
  refine wpList_plain hgd fun K hK => ?_
  unfold Oper.wp execOp
  simp only [ho, resolve, invoke, builtin, Sem.run_bind, Sem.run_pure, Result.andThen_ok, List.map_toArray, List.map_cons, List.map_nil, hs, hx, hrun]
  exact hK _ _ (h v' w' h2 h3 h4)
end

variable {g r : Nat} {l : List Nat} {w w' : World}
/-- The greatest identifier; 0 if there is none. -/
def lastL (l : List Nat) : Nat := (atL l (l.length : Nat)).1
theorem last_lt {l : List Nat} {u : Nat} (ha : l.Pairwise (· < ·)) (h : lastL l < u) : ∀ y ∈ l, y < u := by
  intro y hy
  obtain ⟨i, hi, rfl⟩ := List.mem_iff_getElem.1 hy
  have e : lastL l = l[l.length - 1] := by
    unfold lastL atL
    rw [if_pos ⟨by omega, by omega⟩, show (((l.length : Nat) : Int) - 1).toNat = l.length - 1 by omega, getElem!_pos l _ (by omega)]
  rcases Nat.lt_or_ge i (l.length - 1) with h2 | h2
  · have := List.pairwise_iff_getElem.1 ha i (l.length - 1) hi (by omega) h2
    omega
  · obtain rfl : i = l.length - 1 := by omega
    omega
theorem asc_snoc {l : List Nat} {u : Nat} (ha : l.Pairwise (· < ·)) (h : lastL l < u) : (l ++ [u]).Pairwise (· < ·) := by
  refine List.pairwise_append.2 ⟨ha, List.pairwise_singleton _ _, fun y hy z hz => ?_⟩
  obtain rfl : z = u := by simpa using hz
  exact last_lt ha h y hy
theorem heap_set {w : World} {g : Nat} {v v' : Value} {T : TypeId} (h : w.heap[g]? = some (.cells #[v] T (0, 0))) : (w.setCell ⟨g, 0, none⟩ v').heap[g]? = some (.cells #[v'] T (0, 0)) := by
  rw [Joins.block_setCell h]
  rfl
/-- The row that was appended to, and its value stored. -/
theorem Ix.appended (h : Ix g r l w) {u : Nat} (hu : u ≤ 4294967295) (hl : l.length < 100000) (hlast : lastL l < u) {A : Option Addr} {c : Nat} {v' : Value} {w1 w2 : World}
    (hb : w.heap[g]? = some (.cells #[.slice A l.length c] 51 (0, 0))) (hA : (A = none ∧ r = g) ∨ (A = some ⟨r, 0, none⟩ ∧ r ≠ g ∧ r < w.heap.size)) (h1 : Below w.heap.size w w1)
    (ho : w2.ownsRow 0 28 1 v' (l.length + [u].length) (flatL encU l ++ flatL encU [u])) (hg : w1.grownBy w2 (Value.slice A l.length c).ownBlock) (hf : v'.ownBlock = (Value.slice A l.length c).ownBlock ∨ v'.ownBlock = some w1.heap.size) :
    ∃ r', Hid (Ix g r' (l ++ [u]) (w2.setCell ⟨g, 0, none⟩ v')) ∧ Hid (Two g r w (w2.setCell ⟨g, 0, none⟩ v')) ∧ (r' = r ∨ w.heap.size ≤ r') := by
  have hgl := h.lt
  have hsz1 := h1.size
  have hsz2 := hg.size
  have hgne : some g ≠ (Value.slice A l.length c).ownBlock := by
    rcases hA with ⟨rfl, _⟩ | ⟨rfl, h3, _⟩
    · simp [Value.ownBlock]
    · simp only [Value.ownBlock]
      exact fun e => h3 (Option.some.inj e).symm
  have hb1 : w1.heap[g]? = some (.cells #[.slice A l.length c] 51 (0, 0)) := (h1.block g hgl).trans hb
  have hb2 : w2.heap[g]? = some (.cells #[.slice A l.length c] 51 (0, 0)) := (hg.block g (by omega) hgne).trans hb1
  have hb3 := heap_set (v' := v') hb2
  have ho2 : w2.ownsRow 0 28 1 v' (l ++ [u]).length (flatL encU (l ++ [u])) := by
    rw [List.length_append, flatL_append]
    exact ho
  obtain ⟨A', c', rfl⟩ := own_any ho2
  have hA' : ∃ k cap, A' = some ⟨k, 0, none⟩ ∧ k < w2.heap.size ∧ cap = c' := by
    rcases ho2.2 with ⟨_, h4⟩ | ⟨k, cap, cur, h4, _, h5, _⟩
    · simp at h4
    · injection h4 with h4 _ h6
      exact ⟨k, cap, h4, (Array.getElem?_eq_some_iff.1 h5).1, h6.symm⟩
  obtain ⟨k, _, rfl, hk, _⟩ := hA'
  have hkr : (k = r ∧ r ≠ g) ∨ w.heap.size ≤ k := by
    rcases hf with h4 | h4
    · rcases hA with ⟨rfl, _⟩ | ⟨rfl, h5, _⟩
      · simp [Value.ownBlock] at h4
      · simp only [Value.ownBlock] at h4
        exact .inl ⟨Option.some.inj h4, h5⟩
    · simp only [Value.ownBlock] at h4
      have := Option.some.inj h4
      exact .inr (by omega)
  have hkg : k ≠ g := by omega
  refine ⟨k, ⟨⟨_, c', hb3, own_block ho2 (fun a ha => ?_), .inr ⟨rfl, hkg, by simpa [World.setCell] using hk⟩⟩, asc_snoc h.asc hlast, fun y hy => ?_, by simp; omega⟩, ?_, hkr.imp And.left id⟩
  · obtain rfl := Option.some.inj ha
    exact Below.heap_setCell _ _ _ _ (fun e => hkg e)
  · rcases List.mem_append.1 hy with hy | hy
    · exact h.pos y hy
    · obtain rfl : y = u := by simpa using hy
      omega
  · refine ((Two.of_below h1).trans ⟨hg.os, hg.tape, hg.output, hg.size, fun k hk h1 h2 => hg.block k hk (fun e => ?_)⟩).trans ⟨rfl, rfl, rfl, by simp [World.setCell], fun k _ h1 _ => Below.heap_setCell _ _ _ _ (fun e => h1 e)⟩
    rcases hA with ⟨rfl, _⟩ | ⟨rfl, _⟩
    · simp [Value.ownBlock] at e
    · simp only [Value.ownBlock] at e
      exact h2 (Option.some.inj e)

theorem slAt_x12 {w : World} {x : Nat} : SlAt encU 1 (w.alloc (.cells #[.int .u32 (x : Int)] 28)) (some ⟨w.heap.size, 0, none⟩) [x] := slAt_x (by simp) (by simp)

set_option maxRecDepth 100000 in
theorem ixappend_any (u : Nat) (hu : u ≤ 4294967295) (hl : l.length < 100000) (h : Ix g r l w) :
    Calls Try.prog 12 #[.pointer (some ⟨g, 0, none⟩), .int .u32 u] w fun e w' => e = .returned (.bool (decide (lastL l < u))) ∧
      ∃ r' l', l' = (if lastL l < u then l ++ [u] else l) ∧ Hid (Ix g r' l' w') ∧ Hid (Two g r w w') ∧ (r' = r ∨ w.heap.size ≤ r') := by
  obtain ⟨i0, hi, hz0, hz1, hz2⟩ := info_parts infoU
  obtain ⟨A, c, hb, ho, hA⟩ := h.st
  have hc := cell_of_row w g 0 _ _ _ hb
  have hf := Joins.unfrozen_of_block hb 0
  have AT := Lib.hid (ixat_any ((l.length : Nat) : Int) (by omega) (by omega) h)
  by_cases hlt : lastL l < u
  · have AP := Lib.hid (fun v' w1 w2 h1 ho hg hf => h.appended hu hl hlt (v' := v') (w1 := w1) (w2 := w2) hb hA h1 ho hg hf)
    have hn : ¬ (u : Int) ≤ (lastL l : Int) := by omega
    rw [decide_eq_true hlt]
    simp only [if_pos hlt]
    obtain ⟨y, hy⟩ : ∃ y, y = lastL l := ⟨_, rfl⟩
    have e1 : (atL l ((l.length : Nat) : Int)).1 = y := hy.symm
    rw [e1] at AT
    rw [← hy] at hn
    generalize (atL l ((l.length : Nat) : Int)).2 = bb at *
    have HOW := Lib.hid (ho.alloc (.cells #[.int .u32 (u : Int)] 28))
    have HS := Lib.hid (slAt_x12 (w := w) (x := u))
    have HB := Lib.hid (below_al w (.cells #[.int .u32 (u : Int)] 28))
    have h63 : l.length + [u].length ≤ maxLen := by simp only [List.length_singleton, maxLen]; omega
    have h64 : (l.length + [u].length) * 4 ≤ 140737488355328 := by simp only [List.length_singleton]; omega
    have hbg : g < w.heap.size := h.lt
    have hgA : some g ≠ (Value.slice A l.length c).ownBlock := by
      rcases hA with ⟨rfl, _⟩ | ⟨rfl, h3, _⟩
      · simp [Value.ownBlock]
      · simp only [Value.ownBlock]
        exact fun e => h3 (Option.some.inj e).symm
    clear h hlt hy e1 hb ho hA
    go_enter Try.func12, Try.ntmps12
    go_wp2_with fail
    refine AT.out.mono ?_
    rintro e w1 ⟨rfl, rfl⟩
    clear AT
    go_wp2_with (at_builtin; refine wpList_append_slf _ rfl _ _ 22 rfl 0 28 i0 _ 4 Try.underlying22 hi hz0 hz1 hz2 rfl (by decide) _ l.length (flatL encU l) rfl HOW.out ⟨w.heap.size, 0, none⟩ [u] 1 rfl encU_len HS.out (one_flatU [u]) h63 h64 (Nat.zero_le _) ?_; intro v2 w2 hown2 hg2 hf2; obtain ⟨A2, c2, rfl⟩ := own_any hown2; have AP2 := Lib.hid (AP.out _ _ w2 HB.out hown2 hg2 hf2); have hc2 := (hg2.cell ((HB.out.cell (p := ⟨g, 0, none⟩) hbg).trans hc) hgA); have hf2' : w2.frozen? ⟨g, 0, none⟩ = false := (hg2.frozen_far ⟨g, 0, none⟩ (Nat.lt_of_lt_of_le hbg HB.out.size) hgA).trans ((HB.out.frozen (p := ⟨g, 0, none⟩) hbg).trans hf); clear hown2 hg2 hf2 AP HOW HS)
    go_ret
    obtain ⟨r', k1, k2, k3⟩ := AP2.out
    exact ⟨rfl, r', _, rfl, k1, k2, k3⟩
  · have hn : (u : Int) ≤ (lastL l : Int) := by omega
    rw [decide_eq_false hlt]
    simp only [if_neg hlt]
    obtain ⟨y, hy⟩ : ∃ y, y = lastL l := ⟨_, rfl⟩
    have e1 : (atL l ((l.length : Nat) : Int)).1 = y := hy.symm
    rw [e1] at AT
    rw [← hy] at hn
    generalize (atL l ((l.length : Nat) : Int)).2 = bb at *
    have H := Lib.hid h
    clear h hlt hy e1 hb ho hA
    go_enter Try.func12, Try.ntmps12
    go_wp2_with fail
    refine AT.out.mono ?_
    rintro e w1 ⟨rfl, rfl⟩
    clear AT
    go_wp2_with fail
    go_ret
    exact ⟨rfl, r, l, rfl, H, Two.refl _ _ _, .inl rfl⟩
theorem ixappend_nil (u : Nat) (w : World) :
    Calls Try.prog 12 #[.pointer none, .int .u32 u] w fun e w' => e = .returned (.bool false) ∧ w = w' := by
  go_enter Try.func12, Try.ntmps12
  go_wp2_with fail
  go_ret
  exact ⟨rfl, rfl⟩
end Go.Proofs.Ytkehlknnonppjaa
