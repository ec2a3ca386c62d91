/- LockTwoPhase: the owners' lists are gathered; its state in the turns. -/
import Derived.Test.YtpfplniokjkcbaaTpS
import Derived.Test.YtpfplniokjkcbaaSc14
import Derived.Test.YtpfplniokjkcbaaPt14
namespace Go.Proofs.Ytpfplniokjkcbaa
open Go.RowKit

section
variable {α : Type} {enc : α → List Value} {size : Nat} {P : Program} (w : World)
/-- The append of a slice onto an own row, with what is known of the row's block. -/
theorem wpList_append_slg {ops : Array Oper} {rest : List Oper} {o : Oper} {a : Act} {Q : Exit → Act → World → Prop} (hgd : o.guard = none) (s x : Operand) (t : TypeId)
    (ho : o.op = .call { callee := .builtin .append, args := #[s, x], argTypes := #[t, t] })
    (base : Nat) (e : TypeId) (i : TypeInfo) (z : Value) (bytes : Nat) (ht : P.underlying t = some (.slice e)) (hi : P.info? e = some i) (hz : i.zero = some z)
    (hsize : i.size = size) (hby : i.bytes = bytes) (hzs : z.cells.size = size) (hsz : 0 < size)
    (v : Value) (n : Nat) (xs : List Value) (hs : a.eval s = v) (hown : w.ownsRow base e size v n xs)
    (ad : Addr) (l : List α) (m c : Nat) (hx : a.eval x = .slice (some ad) m c) (hm : l.length = m) (hk : ∀ x, (enc x).length = size) (hS : SlAt enc size w (some ad) l) (h1 : ∀ u ∈ flatL enc l, u.oneCell' = true)
    (h63 : n + l.length ≤ maxLen) (hbytes : (n + l.length) * bytes ≤ 140737488355328) (hbase : base ≤ w.heap.size)
    (h : ∀ v' w', w'.ownsRow base e size v' (n + l.length) (xs ++ flatL enc l) → w.grownBy w' v.ownBlock → (v'.ownBlock = v.ownBlock ∨ v'.ownBlock = some w.heap.size) → wpList P ops Q rest (a.put o.dst v') w') : wpList P ops Q (o :: rest) a w := by
  subst hm
  have hcells : ∀ j u, (flatL enc l)[j]? = some u → w.cell? (ad.add j) = some u := by
    intro j u hu
    rcases hS with rfl | ⟨b, off, hA, _, hc⟩
    · simp [flatL] at hu
    · injection hA with hA
      subst hA
      obtain ⟨q, r, x, rfl, h2, h3⟩ := flatL_find hk l j u hu
      have := hc q x h2 r u h3
      rw [Addr.add_lit, ← Nat.add_assoc]
      exact this
  obtain ⟨v', w', hrun, h2, h3, _, h4⟩ := run_append_own_at (P := P) w base t o.type e i z size bytes ht hi hz hsize hby hzs hsz v n xs hown ad l.length c (flatL enc l) (flatL_length hk l) hcells h1 h63 hbytes hbase
  refine wpList_plain hgd fun K hK => ?_
  unfold Oper.wp execOp
  simp only [ho, resolve, invoke, builtin, Sem.run_bind, Sem.run_pure, Result.andThen_ok, List.map_toArray, List.map_cons, List.map_nil, hs, hx, hrun]
  exact hK _ _ (h v' w' h2 h3 h4)
end
theorem one_flatV (l : List VI) : ∀ u ∈ flatL encV l, u.oneCell' = true := by
  intro u hu
  obtain ⟨r, _, hr⟩ := List.mem_flatMap.1 hu
  simp [encV] at hr
  subst hr
  rfl
theorem slAt_v (W : World) (x : VI) : SlAt encV 1 (W.alloc (.cells #[.slice x.A x.n x.c] 26)) (some ⟨W.heap.size, 0, none⟩) [x] := by
  refine .inr ⟨W.heap.size, 0, rfl, (Array.getElem?_eq_some_iff.1 (heap_alloc_new W (.cells #[.slice x.A x.n x.c] 26))).1, fun j y hj i v hi => ?_⟩
  rcases j with _ | j
  · obtain rfl := Option.some.inj hj
    rcases i with _ | i
    · obtain rfl := Option.some.inj hi
      exact cell_of_row _ _ 0 _ _ _ (heap_alloc_new _ _)
    · simp [encV] at hi
  · simp at hj
theorem infoV : (Try.prog.info? 26).map (fun i => (i.zero, i.size, i.bytes)) = some (some (.slice none 0 0), 1, 24) := by kernel_rfl
theorem asI_app (a b : List Nat) : asI (a ++ b) = asI a ++ asI b := List.map_append ..
theorem asI_len (a : List Nat) : (asI a).length = a.length := List.length_map ..
/-- An owner's wishes as numbers. -/
theorem wish_nat (ys : List Nat) (h : ∀ y ∈ ys, y < 12) : ∃ zs : List Nat, asI zs = wishL (asI ys) ∧ zs.Pairwise (· < ·) ∧ (∀ z ∈ zs, z < 12) ∧ zs.length ≤ ys.length := by
  obtain ⟨h1, h2⟩ := wishL_asc (asI ys)
  have h3 : ∀ x ∈ wishL (asI ys), ∃ y : Nat, x = (y : Int) ∧ y < 12 := fun x hx => by
    obtain ⟨y, hy, rfl⟩ := List.mem_map.1 (h2 x hx)
    exact ⟨y, rfl, h y hy⟩
  have e : asI ((wishL (asI ys)).map Int.toNat) = wishL (asI ys) := by
    unfold asI
    rw [List.map_map]
    conv => rhs; rw [← List.map_id (wishL (List.map (fun (y : Nat) => (y : Int)) ys))]
    refine List.map_congr_left fun x hx => ?_
    obtain ⟨y, rfl, _⟩ := h3 x hx
    simp
  refine ⟨(wishL (asI ys)).map Int.toNat, e, ?_, fun z hz => ?_, ?_⟩
  · rw [List.pairwise_map]
    refine h1.imp_of_mem fun {a b} ha hb hab => ?_
    obtain ⟨y, rfl, _⟩ := h3 a ha
    obtain ⟨z, rfl, _⟩ := h3 b hb
    simp only [Int.toNat_natCast]
    omega
  · obtain ⟨x, hx, rfl⟩ := List.mem_map.1 hz
    obtain ⟨y, rfl, hy⟩ := h3 x hx
    simpa using hy
  · rw [List.length_map]
    unfold wishL
    refine Nat.le_trans (Lib.compact_length_le _) ?_
    rw [List.length_mergeSort, asI_len]
    exact Nat.le_refl _
/-- One more list, behind the append of its value and the store. -/
theorem TPs.push {B g bt bl co Bi : Nat} {Ao : Option Addr} {vs : List VI} {L : List Int} {ls : List (List Nat)} {q : Nat} {w0 W W1 W2 : World} (h : TPs B g bt bl co Ao vs ⟨L, ls, q⟩ w0 W) (hBl : B ≤ bl) (hBi : W.heap.size ≤ Bi) (hb1 : Below W.heap.size W W1) {x : VI} {l : List Nat} (hn : x.n = l.length)
    (ho : W1.ownsRow Bi 3 1 (.slice x.A x.n x.c) l.length (flatL encI (asI l))) {v' : Value}
    (hown : W2.ownsRow B 26 1 v' (vs.length + [x].length) (flatL encV vs ++ flatL encV [x])) (hg : (W1.alloc (.cells #[.slice x.A x.n x.c] 26)).grownBy W2 (Value.slice Ao vs.length co).ownBlock)
    (hf : v'.ownBlock = (Value.slice Ao vs.length co).ownBlock ∨ v'.ownBlock = some (W1.alloc (.cells #[.slice x.A x.n x.c] 26)).heap.size) :
    W2.cell? ⟨bl, 0, none⟩ = some (.slice Ao vs.length co) ∧ W2.frozen? ⟨bl, 0, none⟩ = false ∧ ∃ Ao' co', v' = .slice Ao' (vs ++ [x]).length co' ∧ TPs B g bt bl co' Ao' (vs ++ [x]) ⟨L, ls ++ [l], q⟩ w0 (W2.setCell ⟨bl, 0, none⟩ (.slice Ao' (vs ++ [x]).length co')) := by
  have ba := below_al W1 (.cells #[.slice x.A x.n x.c] 26)
  have hW1 := h.below hb1
  have hWa := hW1.below ba
  have z1 := hb1.size
  have za := ba.size
  have z2 := hg.size
  obtain ⟨Ao', co', rfl⟩ := own_any hown
  have hAo : ∀ b, (Value.slice Ao vs.length co).ownBlock = some b → ∃ a, Ao = some a ∧ a.block = b := fun b e => by
    cases Ao with
    | none => simp [Value.ownBlock] at e
    | some a => exact ⟨a, rfl, by simpa [Value.ownBlock] using e⟩
  have hAo2 : ∃ b, Ao' = some ⟨b, 0, none⟩ ∧ b < W2.heap.size ∧ B ≤ b := by
    rcases hown.2 with ⟨_, h4⟩ | ⟨b, cap, cur, h4, hb, h5, _⟩
    · simp at h4
    · injection h4 with h4
      exact ⟨b, h4, (Array.getElem?_eq_some_iff.1 h5).1, hb⟩
  obtain ⟨b', rfl, hb', hBb'⟩ := hAo2
  have hb2 : (∃ a, Ao = some a ∧ a.block = b') ∨ b' = (W1.alloc (.cells #[.slice x.A x.n x.c] 26)).heap.size := by
    rcases hf with e | e
    · exact .inl (hAo b' (by rw [← e]; rfl))
    · simp only [Value.ownBlock] at e
      exact .inr (Option.some.inj e)
  have hsz0 := hW1.sz
  have hltbt := (Array.getElem?_eq_some_iff.1 h.ht).1
  have hltbl := (Array.getElem?_eq_some_iff.1 h.hl).1
  -- the new list's block
  have hxA : ∀ a, x.A = some a → Bi ≤ a.block ∧ a.block < W1.heap.size := by
    intro a ha
    rcases ho.2 with ⟨e, _⟩ | ⟨k, cap, cur, e, hb, h5, _⟩
    · injection e with e
      rw [e] at ha
      cases ha
    · injection e with e
      rw [e] at ha
      cases ha
      exact ⟨hb, (Array.getElem?_eq_some_iff.1 h5).1⟩
  obtain ⟨S, t1, t2, t3, t4, t5, t6⟩ := h.tb
  -- from W to the end
  have k1 : KeptO (fun j => (∃ a, Ao = some a ∧ a.block = j)) (W1.alloc (.cells #[.slice x.A x.n x.c] 26)) W2 := KeptO.of_grown hg fun r e => hAo r e
  have k2 : KeptO (fun j => (∃ a, Ao = some a ∧ a.block = j) ∨ j = bl) W1 (W2.setCell ⟨bl, 0, none⟩ (.slice (some ⟨b', 0, none⟩) (vs ++ [x]).length co')) :=
    ((KeptO.of_below (S := fun j => (∃ a, Ao = some a ∧ a.block = j) ∨ j = bl) ba).trans (k1.mono fun _ e => .inl e) fun _ e => .inl e).trans (KeptO.of_grown (S := fun j => (∃ a, Ao = some a ∧ a.block = j) ∨ j = bl) (grown_setCell W2 bl 0 _) fun r e => by cases e; exact .inr rfl) fun _ e => .inl e
  have kW := (KeptO.of_below (S := fun j => (∃ a, Ao = some a ∧ a.block = j) ∨ j = bl) hb1).trans k2 fun _ e => .inl e
  have zE : (W2.setCell ⟨bl, 0, none⟩ (.slice (some ⟨b', 0, none⟩) (vs ++ [x]).length co')).heap.size = W2.heap.size := by simp
  have lL : (vs ++ [x]).length = vs.length + [x].length := List.length_append
  have hmem : ∀ z ∈ vs ++ [x], z ∈ vs ∨ z = x := fun z hz => by simpa using hz
  have nS : ∀ j, S j → ¬ ((∃ a, Ao = some a ∧ a.block = j) ∨ j = bl) := by
    rintro j hj (⟨a, ha, rfl⟩ | rfl)
    · exact t5 a ha hj
    · exact t4 hj
  have nAo : ∀ b, (∃ a, Ao = some a ∧ a.block = b) → b ≠ bt ∧ b ≠ bl := by
    rintro b ⟨a, ha, rfl⟩
    exact h.bx.2 a ha
  have nb : b' ≠ bt ∧ b' ≠ bl := by
    rcases hb2 with e | e
    · exact nAo b' e
    · omega
  have oX : Out (fun j => (∃ a, Ao = some a ∧ a.block = j) ∨ j = bl) x.A := by
    rintro a ha (⟨c, hc, e⟩ | e)
    · have hcl : c.block < W.heap.size := by
        rcases h.row.2 with ⟨k3, _⟩ | ⟨bo, cap, cur, k3, hb, k5, _⟩
        · injection k3 with k3
          rw [k3] at hc
          cases hc
        · injection k3 with k3
          rw [k3] at hc
          cases hc
          exact (Array.getElem?_eq_some_iff.1 k5).1
      have := (hxA a ha).1
      omega
    · have := (hxA a ha).1
      omega
  have oVs : ∀ z ∈ vs, Out (fun j => (∃ a, Ao = some a ∧ a.block = j) ∨ j = bl) z.A := by
    rintro z hz a ha (⟨c, hc, e⟩ | e)
    · exact h.apart z hz a c ha hc e.symm
    · exact (h.inn z hz a ha).2.2.2 e
  have slX : SlAt encI 1 W1 x.A (asI l) := by
    have hl2 : l.length = (asI l).length := (asI_len l).symm
    rw [hn, hl2] at ho
    exact SlAt.of_own encI_len ho
  have e1 : W2.heap[bl]? = some (.cells #[.slice Ao vs.length co] 53) := k1.heap (ba.block _ (by omega) |>.trans ((hb1.block _ hltbl).trans h.hl)) fun e => (nAo _ e).2 rfl
  refine ⟨cell_of_row _ _ 0 _ _ _ e1, Joins.unfrozen_of_block e1 0, some ⟨b', 0, none⟩, co', by rw [lL], ⟨⟨S, t1.kept kW nS, t2, t3, t4, fun a ha e => ?_, fun z hz => ?_⟩, ?_, ?_, ?_, ?_, fun i z m hz hm => ?_, fun z hz => ?_, fun z hz a b ha hb => ?_, fun z hz a ha => ?_, ⟨h.bx.1, fun a ha => ?_⟩, h.be.trans (kW.below (fun j e => ?_) h.sz), Nat.le_trans h.sz kW.size⟩⟩
  · cases ha
    rcases hb2 with ⟨c, hc, e2⟩ | e2
    · exact t5 c hc (by rw [e2]; exact e)
    · have := t1.lt _ e
      simp only at this
      omega
  · rcases hmem z hz with e | e
    · exact t6 z e
    · subst e
      intro a ha e2
      have := (hxA a ha).1
      have := t1.lt _ e2
      omega
  · exact kW.heap h.ht (by rintro (e | e); exact (nAo _ e).1 rfl; exact h.bx.1 e)
  · have := Joins.block_setCell (i := 0) e1 (.slice (some ⟨b', 0, none⟩) (vs ++ [x]).length co')
    simpa using this
  · rw [lL, flatL_append]
    refine own_at hown fun a ha => ?_
    cases ha
    exact Below.heap_setCell _ _ _ _ nb.2
  · show (ls ++ [l]).length = _
    rw [List.length_append, lL]
    have := h.len
    simp at this ⊢
    exact this
  · have hll : ls.length = vs.length := h.len
    rcases Nat.lt_or_ge i vs.length with hi | hi
    · rw [List.getElem?_append_left hi] at hz
      change (ls ++ [l])[i]? = some m at hm
      rw [List.getElem?_append_left (by omega)] at hm
      obtain ⟨k3, k4⟩ := h.at_ i z m hz hm
      exact ⟨k3, k4.keptO (oVs z (List.mem_of_getElem? hz)) kW⟩
    · rw [List.getElem?_append_right hi] at hz
      change (ls ++ [l])[i]? = some m at hm
      rw [List.getElem?_append_right (by omega), hll] at hm
      rcases Nat.eq_zero_or_pos (i - vs.length) with e | e
      · rw [e] at hz hm
        obtain rfl := Option.some.inj hz
        obtain rfl := Option.some.inj hm
        exact ⟨hn, slX.keptO oX k2⟩
      · rw [List.getElem?_eq_none (by simp; omega)] at hz
        cases hz
  · rcases hmem z hz with e | e
    · exact h.cp z e
    · subst e
      have := own_cap (hn ▸ ho)
      omega
  · cases hb
    rcases hmem z hz with e | e
    · rcases hb2 with ⟨c, hc, e2⟩ | e2
      · rw [← e2]
        exact h.apart z e a c ha hc
      · have := (h.inn z e a ha).2.1
        simp only
        omega
    · subst e
      have := hxA a ha
      rcases hb2 with ⟨c, hc, e2⟩ | e2
      · rw [← e2]
        intro e3
        exact oX a ha (.inl ⟨c, hc, e3.symm⟩)
      · simp only
        omega
  · rcases hmem z hz with e | e
    · obtain ⟨k3, k4, k5⟩ := h.inn z e a ha
      exact ⟨k3, Nat.lt_of_lt_of_le k4 kW.size, k5⟩
    · subst e
      have h1 := hxA a ha
      have h2 := h.sz
      refine ⟨by omega, by rw [zE]; omega, by omega, by omega⟩
  · cases ha
    exact nb
  · rcases e with ⟨a, ha, rfl⟩ | rfl
    · rcases h.row.2 with ⟨k3, _⟩ | ⟨bo, cap, cur, k3, hb, k5, _⟩
      · injection k3 with k3
        rw [k3] at ha
        cases ha
      · injection k3 with k3
        rw [k3] at ha
        cases ha
        exact hb
    · exact hBl

theorem sort14 (B : Nat) (A : Option Addr) (c m : Nat) (ys : List Nat) (hm : ys.length = m) (h20 : m ≤ 20) (w : World) (hB : B ≤ w.heap.size) (hown : w.ownsRow B 3 1 (.slice A m c) m (flatL encI (asI ys))) :
    Calls Try.prog 27 #[.slice A m c] w fun e w' => e = .returned (.tuple #[]) ∧ w'.ownsRow B 3 1 (.slice A m c) m (flatL encI ((asI ys).mergeSort fun x y => decide (x ≤ y))) ∧ Below B w w' := by
  have e : (asI ys).length = m := (asI_len ys).trans hm
  have := sortI_own B (.slice A m c) (asI ys) (by omega) w hB (by rw [e]; exact hown)
  rw [e] at this
  exact this
theorem comp14 (B : Nat) (A : Option Addr) (c m : Nat) (ys : List Nat) (hm : ys.length = m) (h20 : m ≤ 20) (h12 : ∀ y ∈ ys, y < 12) (w : World) (hB : B ≤ w.heap.size) (hown : w.ownsRow B 3 1 (.slice A m c) m (flatL encI ((asI ys).mergeSort fun x y => decide (x ≤ y)))) :
    Calls Try.prog 28 #[.slice A m c] w fun e w' => ∃ (A' : Option Addr) (c' : Nat) (zs : List Nat), e = .returned (.slice A' zs.length c') ∧ w'.ownsRow B 3 1 (.slice A' zs.length c') zs.length (flatL encI (asI zs)) ∧ Below B w w' ∧ (zs.Pairwise (· < ·) ∧ ∀ z ∈ zs, z < 12) ∧ zs.length ≤ 20 := by
  have e : ((asI ys).mergeSort fun x y => decide (x ≤ y)).length = m := by rw [List.length_mergeSort, asI_len, hm]
  have := compI_own B (.slice A m c) ((asI ys).mergeSort fun x y => decide (x ≤ y)) (by omega) w hB (by rw [e]; exact hown)
  refine this.mono ?_
  rintro e' w' ⟨v', rfl, h1, h2⟩
  obtain ⟨zs, h3, h4, h5, h6⟩ := wish_nat ys h12
  change w'.ownsRow B 3 1 v' (wishL (asI ys)).length (flatL encI (wishL (asI ys))) at h1
  rw [← h3, asI_len] at h1
  obtain ⟨A', c', rfl⟩ := own_any h1
  exact ⟨A', c', zs, rfl, h1, h2, ⟨h4, h5⟩, by omega⟩
end Go.Proofs.Ytpfplniokjkcbaa
