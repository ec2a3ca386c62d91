/- The lock table: Acquire. -/
import Derived.Test.YtpfplniokjkcbaaLkU
import Derived.Deep.RegionHeld3
import Derived.Deep.RegionLaw
import Derived.Deep.DrawnRows
namespace Go.Proofs.Ytpfplniokjkcbaa
open Go.RowKit Go.Maps

section
variable {R : LR} {g q : Nat} {S : Nat → Prop} {L : List Int} {w : World}
theorem slAt_k {w : World} {b : Nat} {c : Nat} (h : w.cell? ⟨b, 0, none⟩ = some (.int .i64 (c : Int))) (hb : b < w.heap.size) : SlAt encK 1 w (some ⟨b, 0, none⟩) [c] := by
  refine .inr ⟨b, 0, rfl, hb, fun j x hj i v hi => ?_⟩
  match j, hj with
  | 0, hj =>
    match i, hi with
    | 0, hi =>
      simp at hj
      subst hj
      simp [encK] at hi
      subst hi
      exact h
/-- append onto an own row, with what is known of the row's block. -/
theorem step_append_slf {α : Type} {enc : α → List Value} {size : Nat} {P : Program} (w : World) {ops : Array Oper} {o : Oper} {a : Act} {K : Act → World → Prop} {Q : Exit → Act → World → Prop} {E : Prop} (hgd : o.guard = none) (s x : Operand) (t : TypeId)
    (ho : o.op = .call { callee := .builtin .append, args := #[s, x], argTypes := #[t, t] })
    (base : Nat) (e : TypeId) (i : TypeInfo) (z : Value) (bytes : Nat) (ht : P.underlying t = some (.slice e)) (hi : P.info? e = some i) (hz : i.zero = some z)
    (hsize : i.size = size) (hby : i.bytes = bytes) (hzs : z.cells.size = size) (hsz : 0 < size)
    (v : Value) (n : Nat) (xs : List Value) (hs : a.eval s = v) (hown : w.ownsRow base e size v n xs)
    (ad : Addr) (l : List α) (m c : Nat) (hx : a.eval x = .slice (some ad) m c) (hm : l.length = m) (hk : ∀ x, (enc x).length = size) (hS : SlAt enc size w (some ad) l) (h1 : ∀ u ∈ flatL enc l, u.oneCell' = true)
    (h63 : n + l.length ≤ maxLen) (hbytes : (n + l.length) * bytes ≤ 140737488355328) (hbase : base ≤ w.heap.size)
    (h : ∀ v' w', w'.ownsRow base e size v' (n + l.length) (xs ++ flatL enc l) → w.grownBy w' v.ownBlock → (v'.ownBlock = v.ownBlock ∨ v'.ownBlock = some w.heap.size) → K (a.put o.dst v') w') :
    if Region.wanted o (yielded ops a.tmps) = true then Oper.wp P o a w K Q else E := by
  subst hm
  have hw : Region.wanted o (yielded ops a.tmps) = true := by simp [Region.wanted, hgd]
  rw [if_pos hw]
  have hcells : ∀ j u, (flatL enc l)[j]? = some u → w.cell? (ad.add j) = some u := by
    intro j u hu
    rcases hS with rfl | ⟨b, off, hA, _, hc⟩
    · simp [flatL] at hu
    · injection hA with hA
      subst hA
      obtain ⟨q, r, x, rfl, h2, h3⟩ := flatL_find hk l j u hu
      have := hc q x h2 r u h3
      rw [Addr.add_lit, ← Nat.add_assoc]
      exact this
  obtain ⟨v', w', hrun, h2, h3, _, h4⟩ := run_append_own_at (P := P) w base t o.type e i z size bytes ht hi hz hsize hby hzs hsz v n xs hown ad l.length c (flatL enc l) (flatL_length hk l) hcells h1 h63 hbytes hbase
  unfold Oper.wp execOp
  simp only [ho, resolve, invoke, builtin, Sem.run_bind, Sem.run_pure, Result.andThen_ok, List.map_toArray, List.map_cons, List.map_nil, hs, hx, hrun]
  exact h v' w' h2 h3 h4

/-- Behind Acquire: where the table lies. -/
theorem LkX.acq (h : LkX R g S L q w) {o : Int} {k : Nat} (ho : 0 ≤ o) (hk : k < L.length) (hf : ownL L k < 0) (hv : ¬ overL L o k) {w1 wa w2 w3 : World} {c1 c3 : Nat} {v1 : Value}
    (M1 : MapZ w1 R.ob c1 (fun x => if x = (k : Int) then some (.int .i64 o) else GO L x) c1) (l1 : c1 ≤ q + 1) (G1 : w.grownBy w1 (some R.ob)) (hB : Below w1.heap.size w1 wa)
    (hown : w2.ownsRow 0 3 1 v1 ((heldL L o).length + [k].length) (flatL encK (heldL L o) ++ flatL encK [k])) (G2 : wa.grownBy w2 (R.val L o).ownBlock) (hfr : v1.ownBlock = (R.val L o).ownBlock ∨ v1.ownBlock = some wa.heap.size)
    (M3 : MapZ w3 R.hb c3 (fun x => if x = o then some v1 else GH R L x) c3) (l3 : c3 ≤ q + 1) (G3 : w2.grownBy w3 (some R.hb)) :
    ∃ S', LkT g S' (L.set k o) (q + 1) (w3.setCell ⟨g, 3, none⟩ (.int .i64 ((q : Int) + 1))) ∧ More S S' w ∧ KeptO S w (w3.setCell ⟨g, 3, none⟩ (.int .i64 ((q : Int) + 1))) := by
  have hgn : ownL L k ≠ o := by omega
  have hacq := heldL_acq ho hk hgn hv
  have hoth : ∀ p, p ≠ o → heldL (L.set k o) p = heldL L p := fun p hp => heldL_oth hk hf hp
  have hob : ∀ b, (R.val L o).ownBlock = some b → heldL L o ≠ [] ∧ b = R.rb o := fun b e => LR.val_ob e
  have ngv : (R.val L o).ownBlock ≠ some g := fun e => by obtain ⟨h1, h2⟩ := hob _ e; exact (h.rk o h1).1 h2.symm
  have nov : (R.val L o).ownBlock ≠ some R.ob := fun e => by obtain ⟨h1, h2⟩ := hob _ e; exact (h.rk o h1).2.1 h2.symm
  have nhv : (R.val L o).ownBlock ≠ some R.hb := fun e => by obtain ⟨h1, h2⟩ := hob _ e; exact (h.rk o h1).2.2 h2.symm
  have z1 := G1.size
  have z2 := hB.size
  have z3 := G2.size
  have z4 := G3.size
  have z5 : (w3.setCell ⟨g, 3, none⟩ (.int .i64 ((q : Int) + 1))).heap.size = w3.heap.size := by simp
  have K4 : KeptO S w (w3.setCell ⟨g, 3, none⟩ (.int .i64 ((q : Int) + 1))) :=
    ((((KeptO.of_grown (S := S) G1 fun r e => by cases e; exact h.so).then_below hB).trans (KeptO.of_grown (S := S) G2 fun r e => by obtain ⟨h1, h2⟩ := hob r e; rw [h2]; exact h.sr o h1) fun _ e => .inl e).trans (KeptO.of_grown (S := S) G3 fun r e => by cases e; exact h.sh) fun _ e => .inl e).trans
      (KeptO.of_grown (S := S) (grown_setCell w3 g 3 _) fun r e => by cases e; exact h.sg) fun _ e => .inl e
  have lg := h.lt _ h.sg
  have lo := h.lt _ h.so
  have lh := h.lt _ h.sh
  -- where the row lies now
  obtain ⟨A1, cc, rfl⟩ := own_any hown
  have hA : ∃ b, A1 = some ⟨b, 0, none⟩ ∧ b < w2.heap.size := by
    rcases hown.2 with ⟨_, h4⟩ | ⟨b, cap, cur, h4, _, h5, _⟩
    · simp at h4
    · injection h4 with h4
      exact ⟨b, h4, (Array.getElem?_eq_some_iff.1 h5).1⟩
  obtain ⟨b1, rfl, hb1⟩ := hA
  have hbn : (heldL L o ≠ [] ∧ b1 = R.rb o) ∨ b1 = wa.heap.size := by
    rcases hfr with e | e
    · exact .inl (hob b1 (by rw [← e]; rfl))
    · simp only [Value.ownBlock] at e
      exact .inr (Option.some.inj e)
  have nb : b1 ≠ g ∧ b1 ≠ R.ob ∧ b1 ≠ R.hb := by
    rcases hbn with ⟨h1, h2⟩ | h2
    · rw [h2]; exact h.rk o h1
    · exact ⟨by omega, by omega, by omega⟩
  have nbp : ∀ p, p ≠ o → heldL L p ≠ [] → b1 ≠ R.rb p := by
    intro p hp hne e
    rcases hbn with ⟨h1, h2⟩ | h2
    · exact hp (h.rr p o hne h1 (by rw [← e, h2]))
    · have := h.lt _ (h.sr p hne)
      omega
  -- blocks from one world to the next
  have s4 : ∀ j, j ≠ g → (w3.setCell ⟨g, 3, none⟩ (.int .i64 ((q : Int) + 1))).heap[j]? = w3.heap[j]? := fun j hj => Below.heap_setCell _ _ _ _ hj
  have s3 : ∀ j, j < w2.heap.size → j ≠ R.hb → w3.heap[j]? = w2.heap[j]? := fun j h1 h2 => G3.block j h1 fun e => h2 (Option.some.inj e)
  have s2 : ∀ j, j < w1.heap.size → some j ≠ (R.val L o).ownBlock → w2.heap[j]? = w1.heap[j]? := fun j h1 h2 => (G2.block j (by omega) h2).trans (hB.block j h1)
  have s1 : ∀ j, j < w.heap.size → j ≠ R.ob → w1.heap[j]? = w.heap[j]? := fun j h1 h2 => G1.block j h1 fun e => h2 (Option.some.inj e)
  have hmt : (L.set k o).length = L.length := List.length_set
  refine ⟨fun j => S j ∨ j = b1, ⟨⟨R.ob, R.hb, fun p => if p = o then b1 else R.rb p, fun p => if p = o then cc else R.cp p⟩, ?_⟩, ⟨fun j e => .inl e, fun j e => e.elim .inl fun e => ?_⟩, K4⟩
  · have vo : LR.val ⟨R.ob, R.hb, fun p => if p = o then b1 else R.rb p, fun p => if p = o then cc else R.cp p⟩ (L.set k o) o = .slice (some ⟨b1, 0, none⟩) ((heldL L o).length + [k].length) cc := by
      unfold LR.val
      rw [if_neg (by rw [hacq]; simp), hacq, List.length_append]
      simp
    have vp : ∀ p, p ≠ o → LR.val ⟨R.ob, R.hb, fun p => if p = o then b1 else R.rb p, fun p => if p = o then cc else R.cp p⟩ (L.set k o) p = R.val L p := by
      intro p hp
      unfold LR.val
      rw [hoth p hp]
      simp only [if_neg hp]
    refine ⟨by rw [hmt]; exact h.len, ?_, .inl h.sg, .inl h.so, .inl h.sh, fun p hp => ?_, ?_, h.go, h.gh, h.oh, fun p hp => ?_, fun p p' hp hp' e => ?_, fun p => ?_, ⟨c1, l1, ?_⟩, ⟨c3, l3, ?_⟩⟩
    · rintro j (e | rfl)
      · have := h.lt _ e
        omega
      · omega
    · by_cases e : p = o
      · subst e; exact .inr (by simp)
      · rw [hoth p e] at hp
        exact .inl (by simp only [if_neg e]; exact h.sr p hp)
    · have t1 : w3.heap[g]? = _ := (s3 g (by omega) h.gh).trans ((s2 g (by omega) fun e => ngv e.symm).trans ((s1 g lg h.go).trans h.tb))
      have := Joins.block_setCell (i := 3) t1 (.int .i64 ((q : Int) + 1))
      rw [hmt]
      simpa using this
    · by_cases e : p = o
      · simp only [if_pos e]; exact nb
      · rw [hoth p e] at hp
        simp only [if_neg e]
        exact h.rk p hp
    · by_cases e1 : p = o
      · by_cases e2 : p' = o
        · rw [e1, e2]
        · rw [hoth p' e2] at hp'
          simp only [if_pos e1, if_neg e2] at e
          exact absurd e (nbp p' e2 hp')
      · rw [hoth p e1] at hp
        by_cases e2 : p' = o
        · simp only [if_neg e1, if_pos e2] at e
          exact absurd e.symm (nbp p e1 hp)
        · rw [hoth p' e2] at hp'
          simp only [if_neg e1, if_neg e2] at e
          exact h.rr p p' hp hp' e
    · by_cases e : p = o
      · subst e
        rw [vo, hacq, List.length_append, flatL_append]
        exact own_at hown fun a ha => by
          cases ha
          exact (s4 _ nb.1).trans (s3 _ hb1 nb.2.2)
      · rw [vp p e, hoth p e]
        refine own_blk (h.row p) fun hne => ?_
        obtain ⟨r1, r2, r3⟩ := h.rk p hne
        have lp := h.lt _ (h.sr p hne)
        exact (s4 _ r1).trans ((s3 _ (by omega) r3).trans ((s2 _ (by omega) fun e2 => by
          obtain ⟨h1, h2⟩ := hob _ e2.symm
          exact e (h.rr p o hne h1 h2)).trans (s1 _ lp r2)))
    · refine (M1.at_ ((s4 _ fun e => h.go e.symm).trans ((s3 _ (by omega) h.oh).trans (s2 _ M1.lt fun e => nov e.symm)))).congr fun x _ => ?_
      unfold GO
      rw [ownL_set hk]
      by_cases e : x = (k : Int)
      · rw [if_pos e, if_pos e, if_pos ho]
      · rw [if_neg e, if_neg e]
    · refine (M3.at_ (s4 _ fun e => h.gh e.symm)).congr fun x _ => ?_
      unfold GH
      by_cases e : x = o
      · subst e
        rw [if_pos rfl, vo, if_neg (by rw [hacq]; simp)]
      · rw [if_neg e, vp x e, hoth x e]
  · rcases hbn with ⟨h1, h2⟩ | h2
    · left
      rw [e, h2]
      exact h.sr o h1
    · right
      omega
end
end Go.Proofs.Ytpfplniokjkcbaa
