/- Small facts on worlds that only grow. Plain facts, no walk. -/
import Derived.Test.YtefodmbaknedkaaChecked
import Derived.WalkKit
import Derived.WalkLawsBesides
import Derived.WalkSpells
import Derived.Lib.LaidTab
import Derived.Lib.ItoaMem
import Derived.Laws.AppendOwn
import Derived.Laws.OwnMore
import Derived.Shelf.SlicesQ.Load
import Derived.Laws.Slices
import Derived.Maps.AppendAt
import Derived.Deep.AppendLies
import Derived.RegionTactic
import Derived.OwnWalk
import Derived.RangeFuncBox
import Derived.Laws.Rows
namespace Go.Proofs.Ytefodmbaknedkaa
open Go.RowKit

theorem ret_bool {a b : Bool} (h : a = b) : Ending.returned (.bool a) = .returned (.bool b) := by rw [h]
theorem ret_int {k : IntKind} {a b : Int} (h : a = b) : Ending.returned (.int k a) = .returned (.int k b) := by rw [h]

theorem var_lt {w : World} {n : String} {g : Nat} {cs : Array Value} (hg : Try.prog.globalNamed n = some g) (h : w.var? Try.prog n = some cs) : g < w.heap.size := by
  unfold World.var? at h
  rcases Nat.lt_or_ge g w.heap.size with h' | h'
  · exact h'
  · rw [hg, Option.bind_some, Array.getElem?_eq_none h'] at h; simp at h

/-- Old cells and old marks behind a call that makes memory. -/
theorem bcell {W w1 : World} (hb : Below W.heap.size W w1) : (∀ b o, b < W.heap.size → w1.cell? ⟨b, o, none⟩ = W.cell? ⟨b, o, none⟩) ∧ (∀ b o, b < W.heap.size → w1.frozen? ⟨b, o, none⟩ = W.frozen? ⟨b, o, none⟩) :=
  ⟨fun b o h => hb.cell (p := ⟨b, o, none⟩) h, fun b o h => hb.frozen (p := ⟨b, o, none⟩) h⟩
/-- One step more behind what lay below. -/
theorem below_step {B : Nat} {a b c : World} (h : Below B a b) (k : Below b.heap.size b c) (hB : B ≤ b.heap.size) : Below B a c := h.trans (k.mono hB)
theorem below_next {a b c : World} (h : Below a.heap.size a b) (k : Below b.heap.size b c) : Below a.heap.size a c := h.trans (k.mono h.size)
theorem btl (s : ByteArray) : s.toList = s.data.toList := ByteArray.toList_eq s
theorem below_grow (w : World) (k : Nat) (os : Array Obj) : Below w.heap.size w (Sort.grow (w.drewN k) os) :=
  ⟨rfl, rfl, rfl, by simp [Sort.grow], fun i hi => by
    show ((w.drewN k).heap ++ os)[i]? = _
    rw [Array.getElem?_append_left (by show i < w.heap.size; omega)]
    rfl⟩
theorem take_snocB (s : ByteArray) (k : Nat) (h : k < s.size) : s.data.toList.take (k + 1) = s.data.toList.take k ++ [s[k]] := by
  rw [List.take_succ_eq_append_getElem (by simpa using h)]; rfl
theorem take_all (s : ByteArray) : s.data.toList.take s.size = s.data.toList := List.take_of_length_le (by simp)
end Go.Proofs.Ytefodmbaknedkaa

namespace Go.Proofs.Ytefodmbaknedkaa
open Go.RowKit

section
variable {α : Type} {enc : α → List Value} {k : Nat} {w w' : World} {A : Option Addr} {l : List α}

/-- The slice of address A holds the list l (its length is the list's). -/
def SlAt (enc : α → List Value) (k : Nat) (w : World) (A : Option Addr) (l : List α) : Prop :=
  l = [] ∨ ∃ b off, A = some ⟨b, off, none⟩ ∧ b < w.heap.size ∧ ∀ j x, l[j]? = some x → ∀ i v, (enc x)[i]? = some v → w.cell? ⟨b, off + j * k + i, none⟩ = some v

theorem SlAt.nil : SlAt enc k w A [] := .inl rfl
theorem SlAt.below (h : SlAt enc k w A l) (hb : Below w.heap.size w w') : SlAt enc k w' A l := by
  rcases h with h | ⟨b, off, hA, hlt, hc⟩
  · exact .inl h
  · exact .inr ⟨b, off, hA, Nat.lt_of_lt_of_le hlt hb.size, fun j x hj i v hi => (hb.cell (p := ⟨b, off + j * k + i, none⟩) hlt).trans (hc j x hj i v hi)⟩
/-- At an index within it: the address is plain, and the element's cells lie there. -/
theorem SlAt.at_ (h : SlAt enc k w A l) {j : Nat} (hj : j < l.length) :
    ∃ b off, A = some ⟨b, off, none⟩ ∧ b < w.heap.size ∧ ∀ i v, (enc l[j])[i]? = some v → w.cell? ⟨b, off + j * k + i, none⟩ = some v := by
  rcases h with rfl | ⟨b, off, hA, hlt, hc⟩
  · simp at hj
  · exact ⟨b, off, hA, hlt, hc j _ (List.getElem?_eq_getElem hj)⟩

/-- The flattened cells. -/
def flatL (enc : α → List Value) (l : List α) : List Value := l.flatMap enc
theorem flatL_nil : flatL enc [] = [] := rfl
theorem flatL_append (a b : List α) : flatL enc (a ++ b) = flatL enc a ++ flatL enc b := by simp [flatL]
theorem flatL_length (hk : ∀ x, (enc x).length = k) (l : List α) : (flatL enc l).length = l.length * k := by
  induction l with
  | nil => simp [flatL]
  | cons x l ih =>
    have : flatL enc (x :: l) = enc x ++ flatL enc l := rfl
    rw [this, List.length_append, ih, hk, List.length_cons, Nat.add_mul, Nat.one_mul, Nat.add_comm]
theorem flatL_at (hk : ∀ x, (enc x).length = k) (l : List α) (j : Nat) (x : α) (hj : l[j]? = some x) (i : Nat) (v : Value) (hi : (enc x)[i]? = some v) : (flatL enc l)[j * k + i]? = some v := by
  induction l generalizing j with
  | nil => simp at hj
  | cons y l ih =>
    have e : flatL enc (y :: l) = enc y ++ flatL enc l := rfl
    have hik : i < k := by rw [← hk x]; exact (List.getElem?_eq_some_iff.1 hi).1
    rw [e]
    cases j with
    | zero =>
      obtain rfl : y = x := by simpa using hj
      rw [List.getElem?_append_left (by rw [hk]; omega)]
      simpa using hi
    | succ j =>
      have hj' : l[j]? = some x := by simpa using hj
      rw [List.getElem?_append_right (by rw [hk, Nat.add_mul]; omega), hk]
      have e2 : (j + 1) * k + i - k = j * k + i := by rw [Nat.add_mul]; omega
      rw [e2]
      exact ih j hj'

/-- A slice that the call made itself reads as its list. -/
theorem SlAt.of_own {base : Nat} {e : TypeId} {n c : Nat} (hk : ∀ x, (enc x).length = k) (h : w.ownsRow base e k (.slice A n c) l.length (flatL enc l)) : SlAt enc k w A l := by
  rcases h.2 with ⟨h1, h2⟩ | ⟨g, cap, cur, h1, hg, hh, _⟩
  · exact .inl (List.eq_nil_of_length_eq_zero h2)
  · injection h1 with h1 h2 h3
    subst h1
    refine .inr ⟨g, 0, rfl, ?_, fun j x hj i v hi => ?_⟩
    · rcases Nat.lt_or_ge g w.heap.size with hlt | hge
      · exact hlt
      · rw [Array.getElem?_eq_none hge] at hh; cases hh
    · have := h.cells (g := g) rfl (j * k + i) v (flatL_at hk l j x hj i v hi)
      rw [Addr.add_lit] at this
      simpa using this
end
theorem below_al (w : World) (o : Obj) : Below w.heap.size w (w.alloc o) := (Below.refl _ _).alloc (Nat.le_refl _) o
theorem below_drew {w : World} (n : Nat) : Below w.heap.size w (w.drewN n) := ⟨rfl, rfl, rfl, Nat.le_refl _, fun _ _ => rfl⟩
end Go.Proofs.Ytefodmbaknedkaa

namespace Go.Proofs.Ytefodmbaknedkaa
open Go.RowKit

/-- The address of a cut. -/
def offG (k : Nat) (A : Option Addr) (c lo : Nat) : Option Addr := if c = lo then A else A.map (·.add (lo * k))
section
variable {α : Type} {enc : α → List Value} {k : Nat} {w : World} {A : Option Addr} {l : List α}
theorem SlAt.cutTake (h : SlAt enc k w A l) (hi : Nat) : SlAt enc k w A (l.take hi) := by
  rcases h with rfl | ⟨b, off, rfl, hb, hc⟩
  · exact .inl (by simp)
  · exact .inr ⟨b, off, rfl, hb, fun j x hj => hc j x (by
      rw [List.getElem?_take] at hj
      split at hj
      · exact hj
      · cases hj)⟩
theorem SlAt.cutDrop (h : SlAt enc k w A l) {c lo : Nat} (hc : l.length ≤ c) : SlAt enc k w (offG k A c lo) (l.drop lo) := by
  rcases h with rfl | ⟨b, off, rfl, hb, hx⟩
  · exact .inl (by simp)
  · by_cases e : c = lo
    · exact .inl (List.drop_eq_nil_of_le (by omega))
    · refine .inr ⟨b, off + lo * k, ?_, hb, fun j x hj i v hi => ?_⟩
      · unfold offG
        rw [if_neg e]
        simp [Addr.add]
      · rw [List.getElem?_drop] at hj
        have := hx (lo + j) x hj i v hi
        rw [Nat.add_mul] at this
        rw [show off + lo * k + j * k + i = off + (lo * k + j * k) + i by omega]
        exact this
theorem offG_blk {A : Option Addr} {c lo : Nat} {P : Nat → Prop} (h : ∀ a, A = some a → P a.block) : ∀ a, offG k A c lo = some a → P a.block := by
  intro a ha
  unfold offG at ha
  split at ha
  · exact h a ha
  · obtain ⟨⟨b, o, sp⟩, h0, rfl⟩ := Option.map_eq_some_iff.1 ha
    have := h _ h0
    unfold Addr.add
    split <;> exact this
end
end Go.Proofs.Ytefodmbaknedkaa

namespace Go.Proofs.Ytefodmbaknedkaa
open Go.RowKit

theorem heap_alloc_new (w : World) (o : Obj) : (w.alloc o).heap[w.heap.size]? = some o := by
  show (w.heap.push o)[w.heap.size]? = _
  simp
end Go.Proofs.Ytefodmbaknedkaa

namespace Go.Proofs.Ytefodmbaknedkaa
open Go.RowKit

section
variable {α : Type} {enc : α → List Value} {size : Nat}

theorem flatL_find (hk : ∀ x, (enc x).length = size) (l : List α) (j : Nat) (u : Value) (h : (flatL enc l)[j]? = some u) : ∃ q r x, j = q * size + r ∧ l[q]? = some x ∧ (enc x)[r]? = some u := by
  induction l generalizing j with
  | nil => simp [flatL] at h
  | cons y l ih =>
    have e : flatL enc (y :: l) = enc y ++ flatL enc l := rfl
    rw [e] at h
    by_cases hj : j < (enc y).length
    · rw [List.getElem?_append_left hj] at h
      exact ⟨0, j, y, by omega, rfl, h⟩
    · rw [List.getElem?_append_right (by omega)] at h
      obtain ⟨q, r, x, h1, h2, h3⟩ := ih _ h
      refine ⟨q + 1, r, x, ?_, by simpa using h2, h3⟩
      rw [hk] at h1 hj
      rw [Nat.add_mul]
      omega

variable {P : Program} (w : World)

theorem append_none (base : Nat) (t ty e : TypeId) (i : TypeInfo) (ht : P.underlying t = some (.slice e)) (hi : P.info? e = some i)
    (v : Value) (n : Nat) (xs : List Value) (hown : w.ownsRow base e size v n xs) (c : Nat) : (Builtin.append_ #[t, t] ty #[v, .slice none 0 c]).run P w = .ok v w := by
  rcases hown.2 with ⟨rfl, rfl⟩ | ⟨g, cap, cur, rfl, _, _, hnc, _⟩
  · simp [Builtin.append_, run_underlying ht, sizeOf, typeInfo, hi, Builtin.lenOf, Builtin.firstCells]
  · simp [Builtin.append_, run_underlying ht, sizeOf, typeInfo, hi, Builtin.lenOf, Builtin.firstCells, hnc, storeCells]

theorem append_sl (base : Nat) (t ty e : TypeId) (i : TypeInfo) (z : Value) (bytes : Nat) (ht : P.underlying t = some (.slice e)) (hi : P.info? e = some i) (hz : i.zero = some z)
    (hsize : i.size = size) (hby : i.bytes = bytes) (hzs : z.cells.size = size) (hsz : 0 < size)
    (v : Value) (n : Nat) (xs : List Value) (hown : w.ownsRow base e size v n xs)
    (A : Option Addr) (l : List α) (c : Nat) (hk : ∀ x, (enc x).length = size) (hS : SlAt enc size w A l) (h1 : ∀ u ∈ flatL enc l, u.oneCell' = true)
    (h63 : n + l.length ≤ maxLen) (hbytes : (n + l.length) * bytes ≤ 140737488355328) (hbase : base ≤ w.heap.size) :
    ∃ v' w', (Builtin.append_ #[t, t] ty #[v, .slice A l.length c]).run P w = .ok v' w' ∧ w'.ownsRow base e size v' (n + l.length) (xs ++ flatL enc l) ∧ w.grownBy w' v.ownBlock := by
  rcases A with _ | ad
  · rcases hS with rfl | ⟨b, off, hA, _⟩
    · exact ⟨v, w, append_none w base t ty e i ht hi v n xs hown c, by simpa [flatL] using hown, World.grownBy.refl w _⟩
    · cases hA
  · have hcells : ∀ j u, (flatL enc l)[j]? = some u → w.cell? (ad.add j) = some u := by
      intro j u hu
      rcases hS with rfl | ⟨b, off, hA, _, hc⟩
      · simp [flatL] at hu
      · injection hA with hA
        subst hA
        obtain ⟨q, r, x, rfl, h2, h3⟩ := flatL_find hk l j u hu
        have := hc q x h2 r u h3
        rw [Addr.add_lit, ← Nat.add_assoc]
        exact this
    obtain ⟨v', w', hrun, h2, h3, _⟩ := run_append_own_at (P := P) w base t ty e i z size bytes ht hi hz hsize hby hzs hsz v n xs hown ad l.length c (flatL enc l) (flatL_length hk l) hcells h1 h63 hbytes hbase
    exact ⟨v', w', hrun, h2, h3⟩

theorem wpList_append_sl {ops : Array Oper} {rest : List Oper} {o : Oper} {a : Act} {Q : Exit → Act → World → Prop} (hgd : o.guard = none) (s x : Operand) (t : TypeId)
    (ho : o.op = .call { callee := .builtin .append, args := #[s, x], argTypes := #[t, t] })
    (base : Nat) (e : TypeId) (i : TypeInfo) (z : Value) (bytes : Nat) (ht : P.underlying t = some (.slice e)) (hi : P.info? e = some i) (hz : i.zero = some z)
    (hsize : i.size = size) (hby : i.bytes = bytes) (hzs : z.cells.size = size) (hsz : 0 < size)
    (v : Value) (n : Nat) (xs : List Value) (hs : a.eval s = v) (hown : w.ownsRow base e size v n xs)
    (A : Option Addr) (l : List α) (c : Nat) (hx : a.eval x = .slice A l.length c) (hk : ∀ x, (enc x).length = size) (hS : SlAt enc size w A l) (h1 : ∀ u ∈ flatL enc l, u.oneCell' = true)
    (h63 : n + l.length ≤ maxLen) (hbytes : (n + l.length) * bytes ≤ 140737488355328) (hbase : base ≤ w.heap.size)
    (h : ∀ v' w', w'.ownsRow base e size v' (n + l.length) (xs ++ flatL enc l) → w.grownBy w' v.ownBlock → wpList P ops Q rest (a.put o.dst v') w') : wpList P ops Q (o :: rest) a w := by
  obtain ⟨v', w', hrun, h2, h3⟩ := append_sl (P := P) w base t o.type e i z bytes ht hi hz hsize hby hzs hsz v n xs hown A l c hk hS h1 h63 hbytes hbase
  refine wpList_plain hgd fun K hK => ?_
  unfold Oper.wp execOp
  simp only [ho, resolve, invoke, builtin, Sem.run_bind, Sem.run_pure, Result.andThen_ok, List.map_toArray, List.map_cons, List.map_nil, hs, hx, hrun]
  exact hK _ _ (h v' w' h2 h3)

/-- The same, at a step of a region that draws its order. -/
theorem step_append_sl {ops : Array Oper} {o : Oper} {a : Act} {K : Act → World → Prop} {Q : Exit → Act → World → Prop} {E : Prop} (hgd : o.guard = none) (s x : Operand) (t : TypeId)
    (ho : o.op = .call { callee := .builtin .append, args := #[s, x], argTypes := #[t, t] })
    (base : Nat) (e : TypeId) (i : TypeInfo) (z : Value) (bytes : Nat) (ht : P.underlying t = some (.slice e)) (hi : P.info? e = some i) (hz : i.zero = some z)
    (hsize : i.size = size) (hby : i.bytes = bytes) (hzs : z.cells.size = size) (hsz : 0 < size)
    (v : Value) (n : Nat) (xs : List Value) (hs : a.eval s = v) (hown : w.ownsRow base e size v n xs)
    (A : Option Addr) (l : List α) (c : Nat) (hx : a.eval x = .slice A l.length c) (hk : ∀ x, (enc x).length = size) (hS : SlAt enc size w A l) (h1 : ∀ u ∈ flatL enc l, u.oneCell' = true)
    (h63 : n + l.length ≤ maxLen) (hbytes : (n + l.length) * bytes ≤ 140737488355328) (hbase : base ≤ w.heap.size)
    (h : ∀ v' w', w'.ownsRow base e size v' (n + l.length) (xs ++ flatL enc l) → w.grownBy w' v.ownBlock → K (a.put o.dst v') w') :
    if Region.wanted o (yielded ops a.tmps) = true then Oper.wp P o a w K Q else E := by
  have hw : Region.wanted o (yielded ops a.tmps) = true := by simp [Region.wanted, hgd]
  rw [if_pos hw]
  obtain ⟨v', w', hrun, h2, h3⟩ := append_sl (P := P) w base t o.type e i z bytes ht hi hz hsize hby hzs hsz v n xs hown A l c hk hS h1 h63 hbytes hbase
  unfold Oper.wp execOp
  simp only [ho, resolve, invoke, builtin, Sem.run_bind, Sem.run_pure, Result.andThen_ok, List.map_toArray, List.map_cons, List.map_nil, hs, hx, hrun]
  exact h v' w' h2 h3
/-- .. its length as the walk has it. -/
theorem step_append_slm {ops : Array Oper} {o : Oper} {a : Act} {K : Act → World → Prop} {Q : Exit → Act → World → Prop} {E : Prop} (hgd : o.guard = none) (s x : Operand) (t : TypeId)
    (ho : o.op = .call { callee := .builtin .append, args := #[s, x], argTypes := #[t, t] })
    (base : Nat) (e : TypeId) (i : TypeInfo) (z : Value) (bytes : Nat) (ht : P.underlying t = some (.slice e)) (hi : P.info? e = some i) (hz : i.zero = some z)
    (hsize : i.size = size) (hby : i.bytes = bytes) (hzs : z.cells.size = size) (hsz : 0 < size)
    (v : Value) (n : Nat) (xs : List Value) (hs : a.eval s = v) (hown : w.ownsRow base e size v n xs)
    (A : Option Addr) (l : List α) (m c : Nat) (hx : a.eval x = .slice A m c) (hm : l.length = m) (hk : ∀ x, (enc x).length = size) (hS : SlAt enc size w A l) (h1 : ∀ u ∈ flatL enc l, u.oneCell' = true)
    (h63 : n + l.length ≤ maxLen) (hbytes : (n + l.length) * bytes ≤ 140737488355328) (hbase : base ≤ w.heap.size)
    (h : ∀ v' w', w'.ownsRow base e size v' (n + l.length) (xs ++ flatL enc l) → w.grownBy w' v.ownBlock → K (a.put o.dst v') w') :
    if Region.wanted o (yielded ops a.tmps) = true then Oper.wp P o a w K Q else E := by
  subst hm
  have hw : Region.wanted o (yielded ops a.tmps) = true := by simp [Region.wanted, hgd]
  rw [if_pos hw]
  obtain ⟨v', w', hrun, h2, h3⟩ := append_sl (P := P) w base t o.type e i z bytes ht hi hz hsize hby hzs hsz v n xs hown A l c hk hS h1 h63 hbytes hbase
  unfold Oper.wp execOp
  simp only [ho, resolve, invoke, builtin, Sem.run_bind, Sem.run_pure, Result.andThen_ok, List.map_toArray, List.map_cons, List.map_nil, hs, hx, hrun]
  exact h v' w' h2 h3

theorem own_empty {W : World} {base b0 : Nat} {T : TypeId} {sz : Nat} (h : W.heap[b0]? = some (.cells #[] T)) (hb : base ≤ b0) : W.ownsRow base T sz (.slice (some ⟨b0, 0, none⟩) 0 0) 0 [] :=
  ⟨by simp, .inr ⟨b0, 0, #[], rfl, hb, h, Nat.le_refl _, Nat.zero_le _, by simp, by simp⟩⟩
end
end Go.Proofs.Ytefodmbaknedkaa

namespace Go.Proofs.Ytefodmbaknedkaa
open Go.RowKit

/-- Blocks of element type T lie as they lay. -/
def KeepsT (T : TypeId) (A B : World) : Prop := A.heap.size ≤ B.heap.size ∧ ∀ (i : Nat) (cs : Array Value) (fr : Nat × Nat), A.heap[i]? = some (Obj.cells cs T fr) → B.heap[i]? = some (Obj.cells cs T fr)
theorem KeepsT.refl (T : TypeId) (A : World) : KeepsT T A A := ⟨Nat.le_refl _, fun _ _ _ h => h⟩
theorem keepsT_t {T : TypeId} {A B C : World} (h : KeepsT T A B) (k : KeepsT T B C) : KeepsT T A C := ⟨Nat.le_trans h.1 k.1, fun i cs fr hi => k.2 i cs fr (h.2 i cs fr hi)⟩
theorem KeepsT.grown {T : TypeId} {A B : World} {row : Option Nat} (hg : A.grownBy B row) (hr : ∀ r, row = some r → ∀ (cs : Array Value) (fr : Nat × Nat), A.heap[r]? ≠ some (Obj.cells cs T fr)) : KeepsT T A B :=
  ⟨hg.size, fun i cs fr hi => by
    rw [hg.block i (Array.getElem?_eq_some_iff.1 hi).1 (fun e => hr i e.symm cs fr hi)]
    exact hi⟩
theorem KeepsT.alloc {T : TypeId} {A B : World} (h : KeepsT T A B) (o : Obj) : KeepsT T A (B.alloc o) :=
  ⟨Nat.le_trans h.1 (by simp), fun i cs fr hi => by
    have := h.2 i cs fr hi
    exact (Below.heap_alloc B o i (Array.getElem?_eq_some_iff.1 this).1).trans this⟩
theorem KeepsT.own {T : TypeId} {A B : World} (h : KeepsT T A B) {base size n : Nat} {v : Value} {xs : List Value} (ho : A.ownsRow base T size v n xs) : B.ownsRow base T size v n xs := by
  refine ⟨ho.1, ?_⟩
  rcases ho.2 with h1 | ⟨g, cap, cur, h1, h2, h3, h4⟩
  · exact .inl h1
  · exact .inr ⟨g, cap, cur, h1, h2, h.2 _ _ _ h3, h4⟩
theorem KeepsT.box {T : TypeId} {A B : World} (h : KeepsT T A B) {i : Nat} {cs : Array Value} (hi : A.heap[i]? = some (Obj.cells cs T (0, 0))) : B.heap[i]? = some (Obj.cells cs T (0, 0)) := h.2 _ _ _ hi
theorem box_cell {A : World} {T : TypeId} {i : Nat} {cs : Array Value} (hi : A.heap[i]? = some (Obj.cells cs T (0, 0))) (j : Nat) (v : Value) (hj : cs[j]? = some v) : A.cell? ⟨i, j, none⟩ = some v := by
  rw [cell_of_row A i j cs T (0, 0) hi]; exact hj

theorem grown_setCell (W : World) (b o : Nat) (v : Value) : W.grownBy (W.setCell ⟨b, o, none⟩ v) (some b) :=
  ⟨rfl, rfl, rfl, by simp [World.setCell], fun k _ hk => Below.heap_setCell _ _ _ k (fun e => hk (by rw [e]))⟩
theorem KeepsT.setAt {T T' : TypeId} {A B : World} {b : Nat} {cs : Array Value} {fr : Nat × Nat} (h : KeepsT T A B) (hb : B.heap[b]? = some (Obj.cells cs T' fr)) (hT : T' ≠ T) (o : Nat) (v : Value) : KeepsT T A (B.setCell ⟨b, o, none⟩ v) :=
  keepsT_t h (KeepsT.grown (grown_setCell B b o v) (fun r e _ _ hc => by
    cases e
    have := hb.symm.trans hc
    simp at this
    exact hT this.2.1))
theorem KeepsT.set_ {T T' : TypeId} {A B : World} {b : Nat} {u : Value} (h : KeepsT T A B) (hb : Boxed B b T' u) (hT : T' ≠ T) (v : Value) : KeepsT T A (B.setCell ⟨b, 0, none⟩ v) :=
  h.setAt (show B.heap[b]? = _ from hb) hT 0 v
theorem KeepsT.below {T : TypeId} {A B C : World} (h : KeepsT T A B) (hb : Below B.heap.size B C) : KeepsT T A C :=
  keepsT_t h ⟨hb.size, fun i _ _ hi => (hb.block i (Array.getElem?_eq_some_iff.1 hi).1).trans hi⟩
theorem KeepsT.own_app {T e : TypeId} {W w1 : World} {base size n : Nat} {v : Value} {xs : List Value} (hrow : W.ownsRow base e size v n xs) (hT : e ≠ T) (hg : W.grownBy w1 v.ownBlock) : KeepsT T W w1 :=
  KeepsT.grown hg (fun r er _ _ hc => by
    rcases hrow.2 with ⟨rfl, _⟩ | ⟨g, cap, cur, rfl, _, hgb, _⟩
    · simp [Value.ownBlock] at er
    · obtain rfl : g = r := by simpa [Value.ownBlock] using er
      have := hgb.symm.trans hc
      simp at this
      exact hT this.2.1)
theorem KeepsT.app {T e : TypeId} {W w1 : World} {base size n : Nat} {v : Value} {xs : List Value} {tmp : Obj} (hrow : W.ownsRow base e size v n xs) (hT : e ≠ T) (hg : (W.alloc tmp).grownBy w1 v.ownBlock) : KeepsT T W w1 :=
  keepsT_t ((KeepsT.refl T W).alloc tmp) (KeepsT.grown hg (fun r er _ _ hc => by
    rcases (hrow.alloc tmp).2 with ⟨rfl, _⟩ | ⟨g, cap, cur, rfl, _, hgb, _⟩
    · simp [Value.ownBlock] at er
    · obtain rfl : g = r := by simpa [Value.ownBlock] using er
      have := hgb.symm.trans hc
      simp at this
      exact hT this.2.1))
theorem own_below {w w' : World} {base : Nat} {e : TypeId} {size n : Nat} {v : Value} {xs : List Value} (h : w.ownsRow base e size v n xs) (hb : Below w.heap.size w w') : w'.ownsRow base e size v n xs := by
  refine ⟨h.1, ?_⟩
  rcases h.2 with h1 | ⟨g, cap, cur, h1, h2, h3, h4⟩
  · exact .inl h1
  · exact .inr ⟨g, cap, cur, h1, h2, (hb.block g (Array.getElem?_eq_some_iff.1 h3).1).trans h3, h4⟩
theorem own_any {w : World} {base : Nat} {e : TypeId} {size n : Nat} {v : Value} {xs : List Value} (h : w.ownsRow base e size v n xs) : ∃ A c, v = .slice A n c := by
  rcases h.2 with ⟨rfl, rfl⟩ | ⟨g, cap, cur, rfl, _⟩
  · exact ⟨_, _, rfl⟩
  · exact ⟨_, _, rfl⟩
theorem grown_of_below {w w' : World} {row : Option Nat} (h : Below w.heap.size w w') : w.grownBy w' row := ⟨h.os, h.tape, h.output, h.size, fun k hk _ => h.block k hk⟩
theorem grown_set {w w' : World} {b : Nat} (h : w.grownBy w' (some b)) (i : Nat) (v : Value) : w.grownBy (w'.setCell ⟨b, i, none⟩ v) (some b) := h.trans (grown_setCell w' b i v)
end Go.Proofs.Ytefodmbaknedkaa

namespace Go.Proofs.Ytefodmbaknedkaa
open Go.RowKit

/-- A range: its Lo and its Hi. -/
abbrev R := Nat × Nat
def encR (r : R) : List Value := [.int .u32 (r.1 : Int), .int .u32 (r.2 : Int)]
theorem encR_len (x : R) : (encR x).length = 2 := rfl
theorem encR_one (x : R) : ∀ v ∈ encR x, v.oneCell' = true := by intro v hv; simp [encR] at hv; rcases hv with rfl | rfl <;> rfl
/-- A number, one cell. -/
def encU (n : Nat) : List Value := [.int .u32 (n : Int)]
theorem encU_len (x : Nat) : (encU x).length = 1 := rfl

def realN (top n : Nat) : Nat := if n = 0 then top else n
def bndN (top : Nat) (r : R) : R := (min (realN top r.1) (realN top r.2), max (realN top r.1) (realN top r.2))
/-- A set is valid for top. -/
def vldL (top : Nat) (l : List R) : Bool := decide (0 < top) && !l.isEmpty && l.all fun r => decide (max r.1 r.2 ≤ top)
def hasR (top n : Nat) (r : R) : Bool := decide ((bndN top r).1 ≤ n) && decide (n ≤ (bndN top r).2)
def hasL (top n : Nat) (l : List R) : Bool := vldL top l && l.any (hasR top n)
end Go.Proofs.Ytefodmbaknedkaa

namespace Go.Proofs.Ytefodmbaknedkaa
open Go.RowKit

theorem infoU : (Try.prog.info? 35).map (fun i => (i.zero, i.size, i.bytes)) = some (some (.int .u32 0), 1, 4) := by kernel_rfl
/-- The cell of a number. -/
theorem SlAt.one {w : World} {A : Option Addr} {l : List Nat} (h : SlAt encU 1 w A l) {j : Nat} (hj : j < l.length) :
    ∃ b off, A = some ⟨b, off, none⟩ ∧ b < w.heap.size ∧ w.cell? ⟨b, off + j, none⟩ = some (.int .u32 (l[j] : Int)) := by
  obtain ⟨b, off, hA, hb, hc⟩ := h.at_ hj
  exact ⟨b, off, hA, hb, by simpa using hc 0 _ rfl⟩
theorem info_parts {T : TypeId} {z : Option Value} {s b : Nat} (h : (Try.prog.info? T).map (fun i => (i.zero, i.size, i.bytes)) = some (z, s, b)) :
    ∃ i, Try.prog.info? T = some i ∧ i.zero = z ∧ i.size = s ∧ i.bytes = b := by
  cases hi : Try.prog.info? T with
  | none => rw [hi] at h; cases h
  | some i =>
    rw [hi] at h
    simp at h
    exact ⟨i, rfl, h.1, h.2.1, h.2.2⟩
theorem one_flatU (l : List Nat) : ∀ u ∈ flatL encU l, u.oneCell' = true := by
  intro u hu
  unfold flatL at hu
  obtain ⟨r, _, hr⟩ := List.mem_flatMap.1 hu
  simp [encU] at hr
  subst hr
  rfl

theorem flatU_map (l : List Nat) : flatL encU l = l.map fun (n : Nat) => Value.int .u32 (n : Int) := by
  induction l with
  | nil => rfl
  | cons n l ih =>
    have : flatL encU (n :: l) = encU n ++ flatL encU l := rfl
    rw [this, ih]
    rfl
theorem cells_new1 {W : World} {b : Nat} (hb : b = W.heap.size) (x : Value) (T : TypeId) : ∀ (j : Nat) (u : Value), [x][j]? = some u → (W.alloc (.cells #[x] T)).cell? ((⟨b, 0, none⟩ : Addr).add j) = some u := by
  subst hb
  intro j u hj
  rw [Addr.add_lit]
  match j, hj with
  | 0, hj => simp at hj; subst hj; simp
theorem cells_new3 {W : World} {b : Nat} (hb : b = W.heap.size) (x y z : Value) (T : TypeId) : ∀ (j : Nat) (u : Value), [x, y, z][j]? = some u → (W.alloc (.cells #[x, y, z] T)).cell? ((⟨b, 0, none⟩ : Addr).add j) = some u := by
  subst hb
  intro j u hj
  rw [Addr.add_lit]
  match j, hj with
  | 0, hj => simp at hj; subst hj; simp
  | 1, hj => simp at hj; subst hj; simp
  | 2, hj => simp at hj; subst hj; simp
end Go.Proofs.Ytefodmbaknedkaa

namespace Go.Proofs.Ytefodmbaknedkaa
open Go.RowKit

theorem own_mono {w : World} {base base' : Nat} {e : TypeId} {size n : Nat} {v : Value} {xs : List Value} (h : w.ownsRow base e size v n xs) (hb : base' ≤ base) : w.ownsRow base' e size v n xs := by
  refine ⟨h.1, h.2.imp id ?_⟩
  rintro ⟨g, cap, cur, h1, h2, h3⟩
  exact ⟨g, cap, cur, h1, Nat.le_trans hb h2, h3⟩
theorem belowDrawN {B : Nat} {a w : World} (h : Below B a w) (k : Nat) : Below B a (w.drewN k) := ⟨h.os, h.tape, h.output, h.size, h.block⟩

theorem own_cap {w : World} {base : Nat} {e : TypeId} {size n c : Nat} {A : Option Addr} {xs : List Value} (h : w.ownsRow base e size (.slice A n c) n xs) : n ≤ c := by
  rcases h.2 with ⟨h1, h2⟩ | ⟨g, cap, cur, h1, _, _, h4, _⟩
  · omega
  · injection h1 with _ _ h1
    omega
theorem bsz {a w : World} (h : Below a.heap.size a w) : a.heap.size ≤ w.heap.size := h.size
theorem bgr {a w w' : World} {row : Option Nat} (h : Below a.heap.size a w) (hg : w.grownBy w' row) (hr : ∀ k, row = some k → a.heap.size ≤ k) : Below a.heap.size a w' := h.grown hg h.size hr
theorem heap_new1 (w : World) (o : Obj) {i : Nat} (h : i = w.heap.size) : (w.alloc o).heap[i]? = some o := by subst h; exact heap_alloc_new _ _
theorem cell_at1 (w : World) (v : Value) (T : TypeId) {b : Nat} (h : b = w.heap.size) : (w.alloc (.cells #[v] T)).cell? ⟨b, 0, none⟩ = some v := by subst h; simp
theorem cell_past1 (w : World) (o : Obj) (v : Value) {b : Nat} (hb : b < w.heap.size) (h : w.cell? ⟨b, 0, none⟩ = some v) : (w.alloc o).cell? ⟨b, 0, none⟩ = some v := (World.cell?_alloc_lt w o ⟨b, 0, none⟩ hb).trans h
theorem belowDraw {B : Nat} {a w : World} (h : Below B a w) : Below B a w.drew := ⟨h.os, h.tape, h.output, h.size, h.block⟩
theorem belowAlloc {a w : World} (h : Below a.heap.size a w) (o : Obj) : Below a.heap.size a (w.alloc o) := h.alloc h.size o
/-- An own row's block lies from its base on. -/
theorem own_from {W : World} {B : Nat} {T : TypeId} {sz n m c : Nat} {A : Option Addr} {xs : List Value} (h : W.ownsRow B T sz (.slice A n c) m xs) : ∀ a, A = some a → B ≤ a.block := by
  intro a ha
  rcases h.2 with ⟨e, _⟩ | ⟨g, cap, cur, e, hb, _⟩
  · injection e with e
    rw [e] at ha
    cases ha
  · injection e with e
    rw [e] at ha
    cases ha
    exact hb
end Go.Proofs.Ytefodmbaknedkaa
