/- The commands that Read gathers: an own row of commands whose slices lie in other blocks. -/
import Derived.Test.YtpgfnlhfciacoaaGreatDoorHe
import Derived.Test.YtpgfnlhfciacoaaGreatDoorGa
import Derived.Test.YtpgfnlhfciacoaaGreatDoorGs
import Derived.Test.YtpgfnlhfciacoaaGreatDoorGe
namespace Go.Proofs.YtpgfnlhfciacoaaGreatDoor
open Go.RowKit

/-- A slice that does not lie in block r. -/
def OffS (r : Option Nat) (A : Option Addr) : Prop := ∀ b off s, A = some ⟨b, off, s⟩ → some b ≠ r
theorem SlAt.kept {α : Type} {enc : α → List Value} {k : Nat} {w w' : World} {r : Option Nat} {A : Option Addr} {l : List α} (h : SlAt enc k w A l) (ho : l = [] ∨ OffS r A) (hg : w.grownBy w' r) : SlAt enc k w' A l := by
  rcases h with h | ⟨b, off, hA, hlt, hc⟩
  · exact .inl h
  · rcases ho with h | ho
    · exact .inl h
    · exact .inr ⟨b, off, hA, Nat.lt_of_lt_of_le hlt hg.size, fun j x hj i v hi => (World.cell?_of_block (hg.block b hlt (ho _ _ _ hA))).trans (hc j x hj i v hi)⟩
theorem SlAt.fresh {α : Type} {enc : α → List Value} {k : Nat} {w : World} {A : Option Addr} {l : List α} (h : SlAt enc k w A l) : l = [] ∨ OffS (some w.heap.size) A := by
  rcases h with h | ⟨b, off, hA, hlt, hc⟩
  · exact .inl h
  · refine .inr fun b' off' s' e => ?_
    rw [hA] at e
    injection e with e
    injection e with e1 e2 e3
    intro h2
    injection h2 with h2
    omega
theorem NewS.off {n r : Nat} {A : Option Addr} {m k : Nat} (h : NewS n (.slice A m k)) (hr : r < n) : OffS (some r) A := by
  intro b off s e h2
  have := h b off s m k (by rw [e])
  injection h2 with h2
  omega

/-- What is known of one command that was gathered. -/
structure RowC (w : World) (r : Option Nat) (x : CX) : Prop where
  s : SlAt encR 2 w x.A1 x.c.set
  d : SlAt encB 1 w x.A2 x.c.data
  l : x.c.data.length ≤ x.k2
  so : x.c.set = [] ∨ OffS r x.A1
  do_ : x.c.data = [] ∨ OffS r x.A2
structure RowX (base : Nat) (w : World) (v : Value) (xs : List CX) : Prop where
  own : w.ownsRow base 26 9 v xs.length (flatL encX xs)
  each : ∀ x ∈ xs, RowC w v.ownBlock x
theorem RowX.nil (base : Nat) (w : World) : RowX base w (.slice none 0 0) [] := ⟨World.ownsRow_nil _ _ _ _, fun x hx => by cases hx⟩
theorem RowC.below {w W : World} {r : Option Nat} {x : CX} (h : RowC w r x) (hb : Below w.heap.size w W) : RowC W r x := ⟨h.s.below hb, h.d.below hb, h.l, h.so, h.do_⟩
theorem RowX.below {base : Nat} {w W : World} {v : Value} {xs : List CX} (h : RowX base w v xs) (hb : Below w.heap.size w W) : RowX base W v xs := ⟨own_below h.own hb, fun x hx => (h.each x hx).below hb⟩
theorem RowC.kept {w W : World} {r r2 : Option Nat} {x : CX} (h : RowC w r x) (hg : w.grownBy W r) (hf : r2 = r ∨ r2 = some w.heap.size) : RowC W r2 x := by
  refine ⟨h.s.kept h.so hg, h.d.kept h.do_ hg, h.l, ?_, ?_⟩
  · rcases hf with rfl | rfl
    · exact h.so
    · exact h.s.fresh
  · rcases hf with rfl | rfl
    · exact h.do_
    · exact h.d.fresh
theorem RowX.blk {base : Nat} {w : World} {v : Value} {xs : List CX} (h : RowX base w v xs) {n : Nat} (hn : w.heap.size ≤ n) : v.ownBlock = none ∨ ∃ r, v.ownBlock = some r ∧ r < n := by
  cases hv : v.ownBlock with
  | none => exact .inl rfl
  | some r => exact .inr ⟨r, rfl, Nat.lt_of_lt_of_le (h.own.lt r hv).2 hn⟩
/-- One command more. -/
theorem RowX.snoc {base : Nat} {wr W w2 : World} {v v' : Value} {xs : List CX} {x : CX} (h : RowX base wr v xs) (hB : Below wr.heap.size wr W) (hs : SlAt encR 2 W x.A1 x.c.set) (hd : SlAt encB 1 W x.A2 x.c.data) (hl : x.c.data.length ≤ x.k2)
    {m1 j1 m2 j2 : Nat} (n1 : NewS wr.heap.size (.slice x.A1 m1 j1)) (n2 : NewS wr.heap.size (.slice x.A2 m2 j2))
    (hO : w2.ownsRow base 26 9 v' (xs.length + 1) (flatL encX xs ++ flatL encX [x])) (hg : W.grownBy w2 v.ownBlock) (hf : v'.ownBlock = v.ownBlock ∨ v'.ownBlock = some W.heap.size) : RowX base w2 v' (xs ++ [x]) := by
  refine ⟨?_, fun y hy => ?_⟩
  · rw [flatL_append, List.length_append]
    exact hO
  · rcases List.mem_append.1 hy with hy | hy
    · exact ((h.each y hy).below hB).kept hg hf
    · obtain rfl := List.mem_singleton.1 hy
      have hc : RowC W v.ownBlock y := by
        refine ⟨hs, hd, hl, ?_, ?_⟩
        · rcases h.blk (Nat.le_refl _) with h0 | ⟨r, h0, hr⟩
          · exact .inr (by rw [h0]; exact fun b off s _ h2 => by cases h2)
          · exact .inr (by rw [h0]; exact n1.off hr)
        · rcases h.blk (Nat.le_refl _) with h0 | ⟨r, h0, hr⟩
          · exact .inr (by rw [h0]; exact fun b off s _ h2 => by cases h2)
          · exact .inr (by rw [h0]; exact n2.off hr)
      exact hc.kept hg hf
theorem RowX.xsAt {base n c : Nat} {w : World} {A : Option Addr} {xs : List CX} (h : RowX base w (.slice A n c) xs) (hn : n = xs.length) : XsAt w A xs := by
  subst hn
  exact ⟨SlAt.of_own encX_len h.own, fun x hx => ⟨(h.each x hx).s, ByAt.of_sl (h.each x hx).d (h.each x hx).l⟩⟩

theorem one_flatX (xs : List CX) : ∀ u ∈ flatL encX xs, u.oneCell' = true := by
  intro u hu
  obtain ⟨x, _, hx⟩ := List.mem_flatMap.1 hu
  unfold encX at hx
  simp only [List.mem_cons, List.not_mem_nil, or_false] at hx
  rcases hx with rfl | rfl | rfl | rfl | rfl | rfl | rfl | rfl | rfl <;> rfl

section
variable {α : Type} {enc : α → List Value} {size : Nat} {P : Program} (w : World)
/-- The append of a slice onto an own row, with what is known of the row's block. -/
theorem wpList_append_slf {ops : Array Oper} {rest : List Oper} {o : Oper} {a : Act} {Q : Exit → Act → World → Prop} (hgd : o.guard = none) (s x : Operand) (t : TypeId)
    (ho : o.op = .call { callee := .builtin .append, args := #[s, x], argTypes := #[t, t] })
    (base : Nat) (e : TypeId) (i : TypeInfo) (z : Value) (bytes : Nat) (ht : P.underlying t = some (.slice e)) (hi : P.info? e = some i) (hz : i.zero = some z)
    (hsize : i.size = size) (hby : i.bytes = bytes) (hzs : z.cells.size = size) (hsz : 0 < size)
    (v : Value) (n : Nat) (xs : List Value) (hs : a.eval s = v) (hown : w.ownsRow base e size v n xs)
    (ad : Addr) (l : List α) (c : Nat) (hx : a.eval x = .slice (some ad) l.length c) (hk : ∀ x, (enc x).length = size) (hS : SlAt enc size w (some ad) l) (h1 : ∀ u ∈ flatL enc l, u.oneCell' = true)
    (h63 : n + l.length ≤ maxLen) (hbytes : (n + l.length) * bytes ≤ 140737488355328) (hbase : base ≤ w.heap.size)
    (h : ∀ v' w', w'.ownsRow base e size v' (n + l.length) (xs ++ flatL enc l) → w.grownBy w' v.ownBlock → (v'.ownBlock = v.ownBlock ∨ v'.ownBlock = some w.heap.size) → wpList P ops Q rest (a.put o.dst v') w') : wpList P ops Q (o :: rest) a w := by
  have hcells : ∀ j u, (flatL enc l)[j]? = some u → w.cell? (ad.add j) = some u := by
    intro j u hu
    rcases hS with rfl | ⟨b, off, hA, _, hc⟩
    · simp [flatL] at hu
    · injection hA with hA
      subst hA
      obtain ⟨q, r, x, rfl, h2, h3⟩ := flatL_find hk l j u hu
      have := hc q x h2 r u h3
      rw [Addr.add_lit, ← Nat.add_assoc]
      exact this
  obtain ⟨v', w', hrun, h2, h3, _, h4⟩ := run_append_own_at (P := P) w base t o.type e i z size bytes ht hi hz hsize hby hzs hsz v n xs hown ad l.length c (flatL enc l) (flatL_length hk l) hcells h1 h63 hbytes hbase
  refine wpList_plain hgd fun K hK => ?_
  unfold Oper.wp execOp
  simp only [ho, resolve, invoke, builtin, Sem.run_bind, Sem.run_pure, Result.andThen_ok, List.map_toArray, List.map_cons, List.map_nil, hs, hx, hrun]
  exact hK _ _ (h v' w' h2 h3 h4)
end
end Go.Proofs.YtpgfnlhfciacoaaGreatDoor
