/- index: the block and the row of an index; what its calls leave; what reads it. -/
import Derived.Test.YtefodmbaknedkaaVa
import Derived.WalkKit
import Derived.Deep.RegionHeld3
import Derived.Deep.DrawnRows
import Derived.BigQuiet
import Derived.Deep.QuietTactic
import Derived.Deep.LoopGhost
import Derived.CellFam
import Derived.Test.YtefodmbaknedkaaVd
import Derived.Test.YtefodmbaknedkaaVg
import Derived.Laws.NewBlocks
import Derived.Lib.SmallJoins
import Derived.Laws.CopyOwn
import Derived.Laws.CopyRow
namespace Go.Proofs.Ytefodmbaknedkaa
open Go.RowKit Go.Shelf

/-- All memory is as it was, but for the blocks g and r, and new ones. -/
structure Two (g r : Nat) (w w' : World) : Prop where
  os : w'.os = w.os
  tape : w'.tape = w.tape
  output : w'.output = w.output
  size : w.heap.size ≤ w'.heap.size
  block : ∀ k, k < w.heap.size → k ≠ g → k ≠ r → w'.heap[k]? = w.heap[k]?
theorem Two.refl (g r : Nat) (w : World) : Two g r w w := ⟨rfl, rfl, rfl, Nat.le_refl _, fun _ _ _ _ => rfl⟩
theorem Two.trans {g r : Nat} {a b c : World} (h : Two g r a b) (k : Two g r b c) : Two g r a c :=
  ⟨k.os.trans h.os, k.tape.trans h.tape, k.output.trans h.output, Nat.le_trans h.size k.size, fun i hi h1 h2 => (k.block i (Nat.lt_of_lt_of_le hi h.size) h1 h2).trans (h.block i hi h1 h2)⟩
theorem Two.of_below {g r : Nat} {a b : World} (h : Below a.heap.size a b) : Two g r a b := ⟨h.os, h.tape, h.output, h.size, fun k hk _ _ => h.block k hk⟩
theorem Two.of_grown {g r x : Nat} {a b : World} (h : a.grownBy b (some x)) (hx : x < a.heap.size → x = g ∨ x = r) : Two g r a b :=
  ⟨h.os, h.tape, h.output, h.size, fun k hk h1 h2 => h.block k hk (fun e => by
    obtain rfl : k = x := Option.some.inj e
    rcases hx hk with h | h
    · exact h1 h
    · exact h2 h)⟩
/-- The row moves to a block that is new. -/
theorem Two.move {g r r' : Nat} {a b c : World} (h : Two g r a b) (hr : r' = r ∨ a.heap.size ≤ r') (k : Two g r' b c) : Two g r a c :=
  ⟨k.os.trans h.os, k.tape.trans h.tape, k.output.trans h.output, Nat.le_trans h.size k.size, fun i hi h1 h2 => (k.block i (Nat.lt_of_lt_of_le hi h.size) h1 (by omega)).trans (h.block i hi h1 h2)⟩
theorem Two.below {g r B : Nat} {a b : World} (h : Two g r a b) (hg : B ≤ g) (hr : B ≤ r) (hB : B ≤ a.heap.size) : Below B a b :=
  ⟨h.os, h.tape, h.output, h.size, fun k hk => h.block k (by omega) (by omega) (by omega)⟩
/-- A slice of numbers in its own block. -/
def SlB (bk : Nat) (w : World) (A : Option Addr) (l : List Nat) : Prop := l = [] ∨ ∃ off : Nat, A = some ⟨bk, off, none⟩ ∧ bk < w.heap.size ∧ ∀ j x : Nat, l[j]? = some x → w.cell? ⟨bk, off + j, none⟩ = some (.int .u32 (x : Int))
theorem SlB.at {bk : Nat} {w : World} {A : Option Addr} {l : List Nat} (h : SlB bk w A l) : SlAt encU 1 w A l := by
  rcases h with rfl | ⟨off, rfl, hb, hc⟩
  · exact .inl rfl
  · refine .inr ⟨bk, off, rfl, hb, fun j x hj i v hi => ?_⟩
    obtain rfl : i = 0 := by
      have := (List.getElem?_eq_some_iff.1 hi).1
      simpa [encU] using this
    obtain rfl : v = .int .u32 (x : Int) := by simpa [encU] using hi.symm
    simpa using hc j x hj
theorem cell_blk {w w' : World} {b o : Nat} (h : w'.heap[b]? = w.heap[b]?) : w'.cell? ⟨b, o, none⟩ = w.cell? ⟨b, o, none⟩ := by unfold World.cell?; rw [h]
theorem SlB.two {bk g r : Nat} {w w' : World} {A : Option Addr} {l : List Nat} (h : SlB bk w A l) (k : Two g r w w') (hg : bk ≠ g) (hr : bk ≠ r) : SlB bk w' A l := by
  rcases h with rfl | ⟨off, rfl, hb, hc⟩
  · exact .inl rfl
  · exact .inr ⟨off, rfl, Nat.lt_of_lt_of_le hb k.size, fun j x hj => (cell_blk (k.block bk hb hg hr)).trans (hc j x hj)⟩
theorem SlB.below {bk : Nat} {w w' : World} {A : Option Addr} {l : List Nat} (h : SlB bk w A l) (k : Below w.heap.size w w') : SlB bk w' A l := by
  rcases h with rfl | ⟨off, rfl, hb, hc⟩
  · exact .inl rfl
  · exact .inr ⟨off, rfl, Nat.lt_of_lt_of_le hb k.size, fun j x hj => (cell_blk (k.block bk hb)).trans (hc j x hj)⟩
theorem SlB.of_own {B : Nat} {w : World} {v : Value} {l : List Nat} (h : w.ownsRow B 35 1 v l.length (flatL encU l)) : ∃ bk A c, v = .slice A l.length c ∧ SlB bk w A l ∧ (B ≤ bk ∧ (bk < w.heap.size ∨ bk = B)) := by
  obtain ⟨A, c, rfl⟩ := own_any h
  rcases h.2 with ⟨_, h2⟩ | ⟨g, cap, cur, h1, hB, hg, _⟩
  · exact ⟨B, A, c, rfl, .inl (List.eq_nil_of_length_eq_zero h2), Nat.le_refl _, .inr rfl⟩
  · have hlt := (Array.getElem?_eq_some_iff.1 hg).1
    have hS := SlAt.of_own encU_len h
    injection h1 with h1
    subst h1
    rcases hS with rfl | ⟨b, off, hA, hb, hc⟩
    · exact ⟨g, _, c, rfl, .inl rfl, hB, .inl hlt⟩
    · injection hA with hA
      injection hA with hA1 hA2
      subst hA1
      subst hA2
      exact ⟨g, _, c, rfl, .inr ⟨0, rfl, hb, fun j x hj => by simpa using hc j x hj 0 _ rfl⟩, hB, .inl hlt⟩

/-- The index in block g has the identifiers l; they lie in block r (in none yet: r is g). -/
structure Ix (g r : Nat) (l : List Nat) (w : World) : Prop where
  st : ∃ A c, w.heap[g]? = some (.cells #[.slice A l.length c] 70 (0, 0)) ∧ w.ownsRow 0 35 1 (.slice A l.length c) l.length (flatL encU l) ∧ ((A = none ∧ r = g) ∨ (A = some ⟨r, 0, none⟩ ∧ r ≠ g ∧ r < w.heap.size))
  asc : l.Pairwise (· < ·)
  pos : ∀ n ∈ l, 0 < n ∧ n ≤ 4294967295
  len : l.length ≤ 100000
variable {g r : Nat} {l : List Nat} {w w' : World}
theorem Ix.lt (h : Ix g r l w) : g < w.heap.size := by obtain ⟨A, c, hb, _⟩ := h.st; exact (Array.getElem?_eq_some_iff.1 hb).1
theorem Ix.ltr (h : Ix g r l w) : r < w.heap.size := by
  obtain ⟨A, c, hb, _, ⟨_, rfl⟩ | ⟨_, _, hr⟩⟩ := h.st
  · exact (Array.getElem?_eq_some_iff.1 hb).1
  · exact hr
theorem own_block {base : Nat} {A : Option Addr} {n c : Nat} {xs : List Value} (h : w.ownsRow base 35 1 (.slice A n c) n xs) (hb : ∀ a, A = some a → w'.heap[a.block]? = w.heap[a.block]?) : w'.ownsRow base 35 1 (.slice A n c) n xs := by
  refine ⟨h.1, h.2.imp id ?_⟩
  rintro ⟨k, cap, cur, h1, h2, h3, h4⟩
  have hA : A = some ⟨k, 0, none⟩ := by injection h1
  exact ⟨k, cap, cur, h1, h2, (hb _ hA).trans h3, h4⟩
theorem Ix.keep (h : Ix g r l w) (hs : w.heap.size ≤ w'.heap.size) (hg : w'.heap[g]? = w.heap[g]?) (hr : w'.heap[r]? = w.heap[r]?) : Ix g r l w' := by
  obtain ⟨A, c, h1, h2, h3⟩ := h.st
  refine ⟨⟨A, c, hg.trans h1, own_block h2 (fun a ha => ?_), h3.imp id (fun h => ⟨h.1, h.2.1, Nat.lt_of_lt_of_le h.2.2 hs⟩)⟩, h.asc, h.pos, h.len⟩
  rcases h3 with ⟨rfl, _⟩ | ⟨rfl, _⟩
  · cases ha
  · obtain rfl := Option.some.inj ha
    exact hr
theorem Ix.below (h : Ix g r l w) (hb : Below w.heap.size w w') : Ix g r l w' := h.keep hb.size (hb.block g h.lt) (hb.block r h.ltr)
theorem Ix.grown {x : Nat} (h : Ix g r l w) (hb : w.grownBy w' (some x)) (hg : g ≠ x) (hr : r ≠ x) : Ix g r l w' :=
  h.keep hb.size (hb.block g h.lt (fun e => hg (Option.some.inj e))) (hb.block r h.ltr (fun e => hr (Option.some.inj e)))
/-- The block's cell; the row as a slice. -/
theorem Ix.open (h : Ix g r l w) : ∃ A c, w.cell? ⟨g, 0, none⟩ = some (.slice A l.length c) ∧ w.frozen? ⟨g, 0, none⟩ = false ∧ SlAt encU 1 w A l ∧ (A = none → c = 0) ∧ l.length ≤ c := by
  obtain ⟨A, c, h1, h2, h3⟩ := h.st
  refine ⟨A, c, cell_of_row w g 0 _ _ _ h1, Joins.unfrozen_of_block h1 0, SlAt.of_own encU_len h2, fun hA => ?_, own_cap h2⟩
  rcases h2.2 with ⟨h4, _⟩ | ⟨k, cap, cur, h4, _⟩
  · injection h4
  · injection h4 with h5
    rw [hA] at h5
    cases h5

set_option maxRecDepth 100000 in
theorem ixlen_any (h : Ix g r l w) :
    Calls Try.prog 34 #[.pointer (some ⟨g, 0, none⟩)] w fun e w' => e = .returned (.int .i64 (l.length : Nat)) ∧ w = w' := by
  obtain ⟨A, c, hc, _⟩ := h.open
  clear h
  go_enter Try.func34, Try.ntmps34
  go_wp2_with fail
  go_ret
  exact ⟨rfl, rfl⟩
theorem ixlen_nil (w : World) :
    Calls Try.prog 34 #[.pointer none] w fun e w' => e = .returned (.int .i64 0) ∧ w = w' := by
  go_enter Try.func34, Try.ntmps34
  go_wp2_with fail
  go_ret
  exact ⟨rfl, rfl⟩

set_option maxRecDepth 100000 in
theorem ixat_any (p : Int) (hp1 : -9223372036854775808 ≤ p) (hp2 : p ≤ 9223372036854775807) (h : Ix g r l w) :
    Calls Try.prog 35 #[.pointer (some ⟨g, 0, none⟩), .int .i64 p] w fun e w' => e = .returned (.tuple #[.int .u32 ((atL l p).1 : Nat), .bool (atL l p).2]) ∧ w = w' := by
  obtain ⟨A, c, hc, _, hS, hA0, hcl⟩ := h.open
  have LN := Lib.hid (ixlen_any h)
  have hll := h.len
  unfold atL
  clear h
  by_cases h1 : p < 1
  · rw [if_neg (by omega)]
    go_enter Try.func35, Try.ntmps35
    go_wp2_with fail
    go_ret2
    exact ⟨rfl, rfl⟩
  · by_cases h2 : p ≤ l.length
    · rw [if_pos ⟨by omega, h2⟩]
      obtain ⟨k, hk, hkl⟩ : ∃ k : Nat, p = (k : Int) + 1 ∧ k < l.length := ⟨(p - 1).toNat, by omega, by omega⟩
      subst hk
      obtain ⟨b, off, rfl, hb, hx⟩ := hS.one hkl
      have e1 : ((k : Int) + 1 - 1).toNat = k := by omega
      rw [e1, getElem!_pos l k hkl]
      clear hS e1 hA0
      generalize l[k] = x at *
      have h3 : ¬ (l.length : Int) < (k : Int) + 1 := by omega
      have hk9 : k < 100000 := by omega
      have e2 : (k : Int) + 1 - 1 = (k : Int) := by omega
      clear hp1 hp2 h2 h1 hll
      go_enter Try.func35, Try.ntmps35
      go_wp2_with fail
      refine LN.out.mono ?_
      rintro e w1 ⟨rfl, rfl⟩
      go_wp2_with fail
      go_ret2
      exact ⟨rfl, rfl⟩
    · rw [if_neg (by omega)]
      have h3 : (l.length : Int) < p := by omega
      have h1 : 1 ≤ p := by omega
      clear hS hA0 h2 hc hll hcl hp1
      go_enter Try.func35, Try.ntmps35
      go_wp2_with fail
      refine LN.out.mono ?_
      rintro e w1 ⟨rfl, rfl⟩
      go_wp2_with fail
      go_ret2
      exact ⟨rfl, rfl⟩
set_option maxRecDepth 100000 in
theorem ixat_nil (p : Int) (hp1 : -9223372036854775808 ≤ p) (hp2 : p ≤ 9223372036854775807) (w : World) :
    Calls Try.prog 35 #[.pointer none, .int .i64 p] w fun e w' => e = .returned (.tuple #[.int .u32 0, .bool false]) ∧ w = w' := by
  have LN := Lib.hid (ixlen_nil w)
  by_cases h1 : p < 1
  · go_enter Try.func35, Try.ntmps35
    go_wp2_with fail
    go_ret2
    exact ⟨rfl, rfl⟩
  · have h3 : (0 : Int) < p := by omega
    have h1 : 1 ≤ p := by omega
    clear hp1
    go_enter Try.func35, Try.ntmps35
    go_wp2_with fail
    refine LN.out.mono ?_
    rintro e w1 ⟨rfl, rfl⟩
    go_wp2_with fail
    go_ret2
    exact ⟨rfl, rfl⟩
end Go.Proofs.Ytefodmbaknedkaa

namespace Go.Proofs.Ytefodmbaknedkaa
open Go.RowKit

/-- Two ascending lists with the same members are one. -/
theorem asc_unique : ∀ {a b : List Nat}, a.Pairwise (· < ·) → b.Pairwise (· < ·) → (∀ n, n ∈ a ↔ n ∈ b) → a = b
  | [], [], _, _, _ => rfl
  | [], y :: b, _, _, h => by have := (h y).2 (by simp); cases this
  | x :: a, [], _, _, h => by have := (h x).1 (by simp); cases this
  | x :: a, y :: b, ha, hb, h => by
    have ha' := List.pairwise_cons.1 ha
    have hb' := List.pairwise_cons.1 hb
    have hxy : x = y := by
      rcases List.mem_cons.1 ((h x).1 (by simp)) with e | hx
      · exact e
      · rcases List.mem_cons.1 ((h y).2 (by simp)) with e | hy
        · exact e.symm
        · have := ha'.1 y hy
          have := hb'.1 x hx
          omega
    subst hxy
    rw [asc_unique ha'.2 hb'.2 (fun n => ?_)]
    have := h n
    simp only [List.mem_cons] at this
    constructor
    · intro hn
      rcases this.1 (.inr hn) with e | e
      · have := ha'.1 n hn; omega
      · exact e
    · intro hn
      rcases this.2 (.inr hn) with e | e
      · have := hb'.1 n hn; omega
      · exact e
/-- What New makes of a list. -/
def IsSet (O l : List Nat) : Prop := O.Pairwise (· < ·) ∧ ∀ n, n ∈ O ↔ n ∈ l ∧ 0 < n
theorem IsSet.det {O P l : List Nat} (h : IsSet O l) (k : IsSet P l) : O = P := asc_unique h.1 k.1 fun n => (h.2 n).trans (k.2 n).symm
theorem isSet_ex : ∀ (l : List Nat), ∃ O, IsSet O l ∧ O.length ≤ l.length
  | [] => ⟨[], ⟨List.Pairwise.nil, by simp⟩, Nat.le_refl _⟩
  | x :: l => by
    obtain ⟨O, ⟨h1, h2⟩, h3⟩ := isSet_ex l
    by_cases hx : x = 0 ∨ x ∈ O
    · refine ⟨O, ⟨h1, fun n => ?_⟩, by simp; omega⟩
      rw [h2 n, List.mem_cons]
      constructor
      · exact fun h => ⟨.inr h.1, h.2⟩
      · rintro ⟨rfl | h, h0⟩
        · rcases hx with rfl | hx
          · omega
          · exact (h2 _).1 hx
        · exact ⟨h, h0⟩
    · refine ⟨O.filter (fun y => decide (y < x)) ++ [x] ++ O.filter (fun y => decide (x < y)), ⟨?_, fun n => ?_⟩, ?_⟩
      · refine List.pairwise_append.2 ⟨List.pairwise_append.2 ⟨h1.filter _, List.pairwise_singleton _ _, fun y hy z hz => ?_⟩, h1.filter _, fun y hy z hz => ?_⟩
        · obtain rfl : z = x := by simpa using hz
          simpa using (List.mem_filter.1 hy).2
        · have hz2 : x < z := by simpa using (List.mem_filter.1 hz).2
          rcases List.mem_append.1 hy with hy | hy
          · have : y < x := by simpa using (List.mem_filter.1 hy).2
            omega
          · obtain rfl : y = x := by simpa using hy
            exact hz2
      · simp only [List.mem_append, List.mem_filter, List.mem_cons, List.not_mem_nil, or_false, decide_eq_true_eq]
        constructor
        · rintro ((⟨h, _⟩ | h) | ⟨h, _⟩)
          · exact ⟨.inr ((h2 n).1 h).1, ((h2 n).1 h).2⟩
          · exact ⟨.inl h, by omega⟩
          · exact ⟨.inr ((h2 n).1 h).1, ((h2 n).1 h).2⟩
        · rintro ⟨h | h, h0⟩
          · exact .inl (.inr h)
          · have hn : n ∈ O := (h2 n).2 ⟨h, h0⟩
            rcases Nat.lt_trichotomy n x with h4 | h4 | h4
            · exact .inl (.inl ⟨hn, h4⟩)
            · exact .inl (.inr h4)
            · exact .inr ⟨hn, h4⟩
      · have h4 : (O.filter fun y => decide (y < x)).length + (O.filter fun y => decide (x < y)).length ≤ O.length := by
          rw [← List.countP_eq_length_filter, ← List.countP_eq_length_filter]
          have e := List.length_eq_countP_add_countP (fun y => decide (y < x)) (l := O)
          have : O.countP (fun y => decide (x < y)) ≤ O.countP (fun y => decide ¬decide (y < x) = true) := List.countP_mono_left fun y _ hy => by
            simp at hy ⊢
            omega
          omega
        simp only [List.length_append, List.length_cons, List.length_nil]
        omega
end Go.Proofs.Ytefodmbaknedkaa

namespace Go.Proofs.Ytefodmbaknedkaa
open Go.RowKit

theorem slAt_x {w : World} {b x : Nat} (h : w.cell? ⟨b, 0, none⟩ = some (.int .u32 (x : Int))) (hb : b < w.heap.size) : SlAt encU 1 w (some ⟨b, 0, none⟩) [x] := by
  refine .inr ⟨b, 0, rfl, hb, fun j y hj i v hi => ?_⟩
  obtain rfl : j = 0 := by
    have := (List.getElem?_eq_some_iff.1 hj).1
    simpa using this
  obtain rfl : x = y := by simpa using hj
  obtain rfl : i = 0 := by
    have := (List.getElem?_eq_some_iff.1 hi).1
    simpa [encU] using this
  obtain rfl : v = .int .u32 (x : Int) := by simpa [encU] using hi.symm
  simpa using h
end Go.Proofs.Ytefodmbaknedkaa

namespace Go.Proofs.Ytefodmbaknedkaa
open Go.RowKit

section
variable {α : Type} {enc : α → List Value} {size : Nat} {P : Program} (w : World)
/-- The append of a slice onto an own row, with what is known of the row's block. -/
theorem wpList_append_slf {ops : Array Oper} {rest : List Oper} {o : Oper} {a : Act} {Q : Exit → Act → World → Prop} (hgd : o.guard = none) (s x : Operand) (t : TypeId)
    (ho : o.op = .call { callee := .builtin .append, args := #[s, x], argTypes := #[t, t] })
    (base : Nat) (e : TypeId) (i : TypeInfo) (z : Value) (bytes : Nat) (ht : P.underlying t = some (.slice e)) (hi : P.info? e = some i) (hz : i.zero = some z)
    (hsize : i.size = size) (hby : i.bytes = bytes) (hzs : z.cells.size = size) (hsz : 0 < size)
    (v : Value) (n : Nat) (xs : List Value) (hs : a.eval s = v) (hown : w.ownsRow base e size v n xs)
    (ad : Addr) (l : List α) (c : Nat) (hx : a.eval x = .slice (some ad) l.length c) (hk : ∀ x, (enc x).length = size) (hS : SlAt enc size w (some ad) l) (h1 : ∀ u ∈ flatL enc l, u.oneCell' = true)
    (h63 : n + l.length ≤ maxLen) (hbytes : (n + l.length) * bytes ≤ 140737488355328) (hbase : base ≤ w.heap.size)
    (h : ∀ v' w', w'.ownsRow base e size v' (n + l.length) (xs ++ flatL enc l) → w.grownBy w' v.ownBlock → (v'.ownBlock = v.ownBlock ∨ v'.ownBlock = some w.heap.size) → wpList P ops Q rest (a.put o.dst v') w') : wpList P ops Q (o :: rest) a w := by
  have hcells : ∀ j u, (flatL enc l)[j]? = some u → w.cell? (ad.add j) = some u := by
    intro j u hu
    rcases hS with rfl | ⟨b, off, hA, _, hc⟩
    · simp [flatL] at hu
    · injection hA with hA
      subst hA
      obtain ⟨q, r, x, rfl, h2, h3⟩ := flatL_find hk l j u hu
      have := hc q x h2 r u h3
      rw [Addr.add_lit, ← Nat.add_assoc]
      exact this
  obtain ⟨v', w', hrun, h2, h3, _, h4⟩ := run_append_own_at (P := P) w base t o.type e i z size bytes ht hi hz hsize hby hzs hsz v n xs hown ad l.length c (flatL enc l) (flatL_length hk l) hcells h1 h63 hbytes hbase
  refine wpList_plain hgd fun K hK => ?_
  unfold Oper.wp execOp
  simp only [ho, resolve, invoke, builtin, Sem.run_bind, Sem.run_pure, Result.andThen_ok, List.map_toArray, List.map_cons, List.map_nil, hs, hx, hrun]
  exact hK _ _ (h v' w' h2 h3 h4)
end

variable {g r : Nat} {l : List Nat} {w w' : World}
theorem heap_set {w : World} {g : Nat} {v v' : Value} {T : TypeId} (h : w.heap[g]? = some (.cells #[v] T (0, 0))) : (w.setCell ⟨g, 0, none⟩ v').heap[g]? = some (.cells #[v'] T (0, 0)) := by
  rw [Joins.block_setCell h]
  rfl
/-- The row that was appended to, and its value stored. -/
theorem Ix.appended (h : Ix g r l w) {u : Nat} (hu : u ≤ 4294967295) (hl : l.length < 100000) (hlast : lastL l < u) {A : Option Addr} {c : Nat} {v' : Value} {w1 w2 : World}
    (hb : w.heap[g]? = some (.cells #[.slice A l.length c] 70 (0, 0))) (hA : (A = none ∧ r = g) ∨ (A = some ⟨r, 0, none⟩ ∧ r ≠ g ∧ r < w.heap.size)) (h1 : Below w.heap.size w w1)
    (ho : w2.ownsRow 0 35 1 v' (l.length + [u].length) (flatL encU l ++ flatL encU [u])) (hg : w1.grownBy w2 (Value.slice A l.length c).ownBlock) (hf : v'.ownBlock = (Value.slice A l.length c).ownBlock ∨ v'.ownBlock = some w1.heap.size) :
    ∃ r', Hid (Ix g r' (l ++ [u]) (w2.setCell ⟨g, 0, none⟩ v')) ∧ Hid (Two g r w (w2.setCell ⟨g, 0, none⟩ v')) ∧ (r' = r ∨ w.heap.size ≤ r') := by
  have hgl := h.lt
  have hsz1 := h1.size
  have hsz2 := hg.size
  have hgne : some g ≠ (Value.slice A l.length c).ownBlock := by
    rcases hA with ⟨rfl, _⟩ | ⟨rfl, h3, _⟩
    · simp [Value.ownBlock]
    · simp only [Value.ownBlock]
      exact fun e => h3 (Option.some.inj e).symm
  have hb1 : w1.heap[g]? = some (.cells #[.slice A l.length c] 70 (0, 0)) := (h1.block g hgl).trans hb
  have hb2 : w2.heap[g]? = some (.cells #[.slice A l.length c] 70 (0, 0)) := (hg.block g (by omega) hgne).trans hb1
  have hb3 := heap_set (v' := v') hb2
  have ho2 : w2.ownsRow 0 35 1 v' (l ++ [u]).length (flatL encU (l ++ [u])) := by
    rw [List.length_append, flatL_append]
    exact ho
  obtain ⟨A', c', rfl⟩ := own_any ho2
  have hA' : ∃ k cap, A' = some ⟨k, 0, none⟩ ∧ k < w2.heap.size ∧ cap = c' := by
    rcases ho2.2 with ⟨_, h4⟩ | ⟨k, cap, cur, h4, _, h5, _⟩
    · simp at h4
    · injection h4 with h4 _ h6
      exact ⟨k, cap, h4, (Array.getElem?_eq_some_iff.1 h5).1, h6.symm⟩
  obtain ⟨k, _, rfl, hk, _⟩ := hA'
  have hkr : (k = r ∧ r ≠ g) ∨ w.heap.size ≤ k := by
    rcases hf with h4 | h4
    · rcases hA with ⟨rfl, _⟩ | ⟨rfl, h5, _⟩
      · simp [Value.ownBlock] at h4
      · simp only [Value.ownBlock] at h4
        exact .inl ⟨Option.some.inj h4, h5⟩
    · simp only [Value.ownBlock] at h4
      have := Option.some.inj h4
      exact .inr (by omega)
  have hkg : k ≠ g := by omega
  refine ⟨k, ⟨⟨_, c', hb3, own_block ho2 (fun a ha => ?_), .inr ⟨rfl, hkg, by simpa [World.setCell] using hk⟩⟩, asc_snoc h.asc hlast, fun y hy => ?_, by simp; omega⟩, ?_, hkr.imp And.left id⟩
  · obtain rfl := Option.some.inj ha
    exact Below.heap_setCell _ _ _ _ (fun e => hkg e)
  · rcases List.mem_append.1 hy with hy | hy
    · exact h.pos y hy
    · obtain rfl : y = u := by simpa using hy
      omega
  · refine ((Two.of_below h1).trans ⟨hg.os, hg.tape, hg.output, hg.size, fun k hk h1 h2 => hg.block k hk (fun e => ?_)⟩).trans ⟨rfl, rfl, rfl, by simp [World.setCell], fun k _ h1 _ => Below.heap_setCell _ _ _ _ (fun e => h1 e)⟩
    rcases hA with ⟨rfl, _⟩ | ⟨rfl, _⟩
    · simp [Value.ownBlock] at e
    · simp only [Value.ownBlock] at e
      exact h2 (Option.some.inj e)

theorem slAt_x12 {w : World} {x : Nat} : SlAt encU 1 (w.alloc (.cells #[.int .u32 (x : Int)] 35)) (some ⟨w.heap.size, 0, none⟩) [x] := slAt_x (by simp) (by simp)

set_option maxRecDepth 100000 in
theorem ixappend_any (u : Nat) (hu : u ≤ 4294967295) (hl : l.length < 100000) (h : Ix g r l w) :
    Calls Try.prog 39 #[.pointer (some ⟨g, 0, none⟩), .int .u32 u] w fun e w' => e = .returned (.bool (decide (lastL l < u))) ∧
      ∃ r' l', l' = (if lastL l < u then l ++ [u] else l) ∧ Hid (Ix g r' l' w') ∧ Hid (Two g r w w') ∧ (r' = r ∨ w.heap.size ≤ r') := by
  obtain ⟨i0, hi, hz0, hz1, hz2⟩ := info_parts infoU
  obtain ⟨A, c, hb, ho, hA⟩ := h.st
  have hc := cell_of_row w g 0 _ _ _ hb
  have hf := Joins.unfrozen_of_block hb 0
  have AT := Lib.hid (ixat_any ((l.length : Nat) : Int) (by omega) (by omega) h)
  by_cases hlt : lastL l < u
  · have AP := Lib.hid (fun v' w1 w2 h1 ho hg hf => h.appended hu hl hlt (v' := v') (w1 := w1) (w2 := w2) hb hA h1 ho hg hf)
    have hn : ¬ (u : Int) ≤ (lastL l : Int) := by omega
    rw [decide_eq_true hlt]
    simp only [if_pos hlt]
    obtain ⟨y, hy⟩ : ∃ y, y = lastL l := ⟨_, rfl⟩
    have e1 : (atL l ((l.length : Nat) : Int)).1 = y := hy.symm
    rw [e1] at AT
    rw [← hy] at hn
    generalize (atL l ((l.length : Nat) : Int)).2 = bb at *
    have HOW := Lib.hid (ho.alloc (.cells #[.int .u32 (u : Int)] 35))
    have HS := Lib.hid (slAt_x12 (w := w) (x := u))
    have HB := Lib.hid (below_al w (.cells #[.int .u32 (u : Int)] 35))
    have h63 : l.length + [u].length ≤ maxLen := by simp only [List.length_singleton, maxLen]; omega
    have h64 : (l.length + [u].length) * 4 ≤ 140737488355328 := by simp only [List.length_singleton]; omega
    have hbg : g < w.heap.size := h.lt
    have hgA : some g ≠ (Value.slice A l.length c).ownBlock := by
      rcases hA with ⟨rfl, _⟩ | ⟨rfl, h3, _⟩
      · simp [Value.ownBlock]
      · simp only [Value.ownBlock]
        exact fun e => h3 (Option.some.inj e).symm
    clear h hlt hy e1 hb ho hA
    go_enter Try.func39, Try.ntmps39
    go_wp2_with fail
    refine AT.out.mono ?_
    rintro e w1 ⟨rfl, rfl⟩
    clear AT
    go_wp2_with (at_builtin; refine wpList_append_slf _ rfl _ _ 22 rfl 0 35 i0 _ 4 Try.underlying22 hi hz0 hz1 hz2 rfl (by decide) _ l.length (flatL encU l) rfl HOW.out ⟨w.heap.size, 0, none⟩ [u] 1 rfl encU_len HS.out (one_flatU [u]) h63 h64 (Nat.zero_le _) ?_; intro v2 w2 hown2 hg2 hf2; obtain ⟨A2, c2, rfl⟩ := own_any hown2; have AP2 := Lib.hid (AP.out _ _ w2 HB.out hown2 hg2 hf2); have hc2 := (hg2.cell ((HB.out.cell (p := ⟨g, 0, none⟩) hbg).trans hc) hgA); have hf2' : w2.frozen? ⟨g, 0, none⟩ = false := (hg2.frozen_far ⟨g, 0, none⟩ (Nat.lt_of_lt_of_le hbg HB.out.size) hgA).trans ((HB.out.frozen (p := ⟨g, 0, none⟩) hbg).trans hf); clear hown2 hg2 hf2 AP HOW HS)
    go_ret
    obtain ⟨r', k1, k2, k3⟩ := AP2.out
    exact ⟨rfl, r', _, rfl, k1, k2, k3⟩
  · have hn : (u : Int) ≤ (lastL l : Int) := by omega
    rw [decide_eq_false hlt]
    simp only [if_neg hlt]
    obtain ⟨y, hy⟩ : ∃ y, y = lastL l := ⟨_, rfl⟩
    have e1 : (atL l ((l.length : Nat) : Int)).1 = y := hy.symm
    rw [e1] at AT
    rw [← hy] at hn
    generalize (atL l ((l.length : Nat) : Int)).2 = bb at *
    have H := Lib.hid h
    clear h hlt hy e1 hb ho hA
    go_enter Try.func39, Try.ntmps39
    go_wp2_with fail
    refine AT.out.mono ?_
    rintro e w1 ⟨rfl, rfl⟩
    clear AT
    go_wp2_with fail
    go_ret
    exact ⟨rfl, r, l, rfl, H, Two.refl _ _ _, .inl rfl⟩
theorem ixappend_nil (u : Nat) (w : World) :
    Calls Try.prog 39 #[.pointer none, .int .u32 u] w fun e w' => e = .returned (.bool false) ∧ w = w' := by
  go_enter Try.func39, Try.ntmps39
  go_wp2_with fail
  go_ret
  exact ⟨rfl, rfl⟩
end Go.Proofs.Ytefodmbaknedkaa

namespace Go.Proofs.Ytefodmbaknedkaa
open Go.RowKit

theorem last_mem {l : List Nat} (h : l ≠ []) : lastL l ∈ l := by
  have hl : 0 < l.length := List.length_pos_iff.2 h
  unfold lastL atL
  rw [if_pos ⟨by omega, by omega⟩, show (((l.length : Nat) : Int) - 1).toNat = l.length - 1 by omega]
  show l[l.length - 1]! ∈ l
  rw [getElem!_pos l _ (by omega)]
  exact List.getElem_mem _
/-- One more of an ascending list. -/
theorem isSet_step {L S : List Nat} {k : Nat} (hk : k < S.length) (hS : S.Pairwise (· ≤ ·)) (h : IsSet L (S.take k)) : IsSet (if lastL L < S[k] then L ++ [S[k]] else L) (S.take (k + 1)) := by
  rw [List.take_succ_eq_append_getElem hk]
  by_cases hlt : lastL L < S[k]
  · rw [if_pos hlt]
    refine ⟨asc_snoc h.1 hlt, fun n => ?_⟩
    rw [List.mem_append, List.mem_append, h.2 n, List.mem_singleton]
    constructor
    · rintro (h | rfl)
      · exact ⟨.inl h.1, h.2⟩
      · exact ⟨.inr rfl, by omega⟩
    · rintro ⟨h | rfl, h0⟩
      · exact .inl ⟨h, h0⟩
      · exact .inr rfl
  · rw [if_neg hlt]
    refine ⟨h.1, fun n => ?_⟩
    rw [List.mem_append, h.2 n, List.mem_singleton]
    constructor
    · exact fun h => ⟨.inl h.1, h.2⟩
    · rintro ⟨h1 | rfl, h0⟩
      · exact ⟨h1, h0⟩
      · have hne : L ≠ [] := by
          rintro rfl
          have : lastL [] = 0 := rfl
          omega
        have hm := last_mem hne
        have h2 := (h.2 _).1 hm
        obtain ⟨i, hi, he⟩ := List.mem_iff_getElem.1 h2.1
        rw [List.length_take] at hi
        rw [List.getElem_take] at he
        have := List.pairwise_iff_getElem.1 hS i k (by omega) hk (by omega)
        have e : S[k] = lastL L := by omega
        rw [e]
        exact h2

theorem ix_new (w : World) : Ix w.heap.size w.heap.size [] (w.alloc (.cells #[.slice none 0 0] 70)) :=
  ⟨⟨none, 0, heap_alloc_new _ _, World.ownsRow_nil _ _ _ _, .inl ⟨rfl, rfl⟩⟩, List.Pairwise.nil, (fun _ h => by cases h), Nat.zero_le _⟩

set_option maxRecDepth 100000 in
set_option maxHeartbeats 1000000 in
theorem new_any (A : Option Addr) (c : Nat) (l O : List Nat) (hl : l.length ≤ 1000) (hb : ∀ n ∈ l, n ≤ 4294967295) (hO : IsSet O l) (w : World) (hS : SlAt encU 1 w A l) :
    Calls Try.prog 23 #[.slice A l.length c] w fun e w' => ∃ g r, e = .returned (.pointer (some ⟨g, 0, none⟩)) ∧ w.heap.size ≤ g ∧ w.heap.size ≤ r ∧ Hid (Ix g r O w') ∧ Hid (Below w.heap.size w w') := by
  have CL := Lib.hid (clone_any A c l (by omega) w hS)
  have ST := Lib.hid (fun v w1 hB ho => sort_any w.heap.size v l (by omega) w1 hB ho)
  have HO := Lib.hid hO
  have HBd := Lib.hid hb
  clear hS hO hb
  go_enter Try.func23, Try.ntmps23
  go_wp2_with fail
  refine CL.out.mono ?_
  rintro e w1 ⟨v, rfl, ho, hB1⟩
  have S1 := Lib.hid (ST.out v w1 hB1.size ho)
  have HB1 := Lib.hid hB1
  clear CL ST ho hB1
  go_wp2_with fail
  refine S1.out.mono ?_
  rintro e w2 ⟨rfl, ⟨S, A2, c2, rfl, hperm, hsorted, hS2⟩, hB2⟩
  have HB2 := Lib.hid (HB1.out.trans hB2)
  have HS2 := Lib.hid hS2
  have HSo := Lib.hid hsorted
  have HP := Lib.hid hperm
  have hlen : S.length ≤ l.length ∧ l.length ≤ S.length := ⟨by rw [hperm.length_eq]; exact Nat.le_refl _, by rw [hperm.length_eq]; exact Nat.le_refl _⟩
  have X0 := Lib.hid (ix_new w2)
  have hsz := HB2.out.size
  clear S1 hB2 hS2 hsorted hperm HB1
  go_wp2_with fail
  go_loopw [15] (fun s15 wr => ∃ (k r : Nat) (L : List Nat), s15 = .int .i64 k ∧ k ≤ l.length ∧ w2.heap.size ≤ r ∧ L.length ≤ k ∧ Hid (Ix w2.heap.size r L wr) ∧ Hid (Below w2.heap.size w2 wr) ∧ Hid (IsSet L (S.take k))) (fun s15 _ => l.length - (intOf s15).toNat)
  case atStart => exact ⟨0, w2.heap.size, [], rfl, Nat.zero_le _, Nat.le_refl _, Nat.le_refl _, X0, below_al _ _, ⟨List.Pairwise.nil, by simp⟩⟩
  case round =>
    obtain ⟨k, r, L, rfl, hk, hr, hLk, X1, B1, I1⟩ := hrel
    clear X0
    by_cases hlt : k < l.length
    · have hkS : k < S.length := by omega
      obtain ⟨b, off, rfl, hb, hx⟩ := (HS2.out.below B1.out).one hkS
      have hxb := HBd.out S[k] (HP.out.mem_iff.1 (List.getElem_mem hkS))
      have I2 := Lib.hid (isSet_step hkS HSo.out I1.out)
      clear I1
      generalize S[k] = x at *
      have AP := Lib.hid (ixappend_any x hxb (by omega) X1.out)
      clear X1
      go_wp2_with fail
      refine AP.out.mono ?_
      rintro e w3 ⟨rfl, r', L', hL', X2, T2, hr'⟩
      have I3 : Hid (IsSet L' (S.take (k + 1))) := by rw [hL']; exact I2.out
      have hL2 : L'.length ≤ k + 1 := by
        rw [hL']
        split
        · simp; omega
        · omega
      have B2 := Lib.hid (B1.out.trans (T2.out.below (Nat.le_refl _) hr B1.out.size))
      have hr2 : w2.heap.size ≤ r' := by have := B1.out.size; omega
      clear AP I2 hL' B1 T2
      go_wp2_with fail
      go_roundw
      case rel => exact ⟨k + 1, r', L', by go_num, by omega, hr2, hL2, X2, B2, I3⟩
      case measure => simp [intOf]; omega
    · have e : L = O := IsSet.det I1.out (by
        have : S.take k = S := List.take_of_length_le (by omega)
        rw [this]
        exact ⟨HO.out.1, fun n => (HO.out.2 n).trans (by rw [HP.out.mem_iff])⟩)
      subst e
      go_wp2_with fail
      go_ret
      exact ⟨_, r, rfl, hsz, by omega, X1, HB2.out.trans (B1.out.mono hsz)⟩
end Go.Proofs.Ytefodmbaknedkaa

namespace Go.Proofs.Ytefodmbaknedkaa
open Go.RowKit Go.Shelf

/-- An index, or none. -/
def IxO (p : Option Addr) (g r : Nat) (l : List Nat) (w : World) : Prop := (p = none ∧ l = []) ∨ (p = some ⟨g, 0, none⟩ ∧ Ix g r l w)
section
variable {p : Option Addr} {g r : Nat} {l : List Nat} {w w' : World}
theorem ixolen_any (h : IxO p g r l w) :
    Calls Try.prog 34 #[.pointer p] w fun e w' => e = .returned (.int .i64 (l.length : Nat)) ∧ w = w' := by
  rcases h with ⟨rfl, rfl⟩ | ⟨rfl, h⟩
  · exact ixlen_nil w
  · exact ixlen_any h
end
end Go.Proofs.Ytefodmbaknedkaa

namespace Go.Proofs.Ytefodmbaknedkaa
open Go.RowKit

theorem run_mkU (n : Nat) (hn : n ≤ 1000000000) (W : World) :
    (Instr.makeSlice 22 (.int .i64 (n : Int)) (.int .i64 (n : Int))).run Try.prog W = .ok (.slice (some ⟨W.heap.size, 0, none⟩) n n) (W.alloc (.cells (madeCells #[.int .u32 0] n) 35)) := by
  obtain ⟨i0, hi, hz0, hz1, hz2⟩ := info_parts infoU
  have hr := run_make (P := Try.prog) W 22 35 i0 _ Try.underlying22 hi hz0 .i64 .i64 (n : Int) (n : Int) (by omega) (Int.le_refl _) (by rw [hz2]; omega) (by omega)
  simp only [Int.toNat_natCast, hz1, Nat.mul_one] at hr
  exact hr

variable {p : Option Addr} {g r : Nat} {l : List Nat} {w w' : World}
set_option maxRecDepth 100000 in
set_option maxHeartbeats 1000000 in
theorem all_any (h : IxO p g r l w) (hl : l.length ≤ 100000) :
    Calls Try.prog 33 #[.pointer p] w fun e w' => ∃ v, e = .returned v ∧ w'.ownsRow w.heap.size 35 1 v l.length (flatL encU l) ∧ Below w.heap.size w w' := by
  have LN := Lib.hid (ixolen_any h)
  have mk := fun W => run_mkU l.length (by omega) W
  rcases h with ⟨rfl, rfl⟩ | ⟨rfl, h⟩
  · have mk0 : ∀ W : World, (Instr.makeSlice 22 (.int .i64 0) (.int .i64 0)).run Try.prog W = .ok (.slice (some ⟨W.heap.size, 0, none⟩) 0 0) (W.alloc (.cells (madeCells #[.int .u32 0] 0) 35)) := fun W => run_mkU 0 (by omega) W
    have O := Lib.hid (show (w.alloc (.cells (madeCells #[.int .u32 0] 0) 35)).ownsRow w.heap.size 35 1 (.slice (some ⟨w.heap.size, 0, none⟩) 0 0) 0 [] from ⟨rfl, .inr ⟨w.heap.size, 0, _, rfl, Nat.le_refl _, heap_alloc_new w _, Nat.le_refl _, Nat.zero_le _, by simp [size_madeCells], by simp⟩⟩)
    have HB := Lib.hid (below_al w (.cells (madeCells #[.int .u32 0] 0) 35))
    go_enter Try.func33, Try.ntmps33
    go_wp2_with fail
    refine LN.out.mono ?_
    rintro e w1 ⟨rfl, rfl⟩
    go_wp2_with fail
    go_ret
    exact ⟨_, rfl, O.out, HB.out⟩
  · have hB0 := below_al w (.cells (madeCells #[.int .u32 0] l.length) 35)
    obtain ⟨A, c, hc, _, hS, _, hcl⟩ := (h.below hB0).open
    have hsz : (Try.prog.info? 35).map (·.size) = some 1 := by kernel_rfl
    have hcs : (flatL encU l).length = l.length := by rw [flatL_length encU_len, Nat.mul_one]
    have hg : (w.alloc (.cells (madeCells #[.int .u32 0] l.length) 35)).heap[w.heap.size]? = some (.cells (madeCells #[.int .u32 0] l.length) 35 (0, 0)) := heap_alloc_new w _
    obtain ⟨w2, hcp, hR2, hB2⟩ : ∃ w2, (Builtin.copy_ #[22, 22] 3 #[.slice (some ⟨w.heap.size, 0, none⟩) l.length l.length, .slice A l.length c]).run Try.prog (w.alloc (.cells (madeCells #[.int .u32 0] l.length) 35)) = .ok (.int .i64 (l.length : Int)) w2 ∧
        w2.heap[w.heap.size]? = some (.cells (flatL encU l).toArray 35 (0, 0)) ∧ Below w.heap.size w w2 := by
      rcases Nat.eq_zero_or_pos l.length with h0 | h0
      · obtain rfl : l = [] := List.eq_nil_of_length_eq_zero h0
        have hrun := run_copy_none (P := Try.prog) (w.alloc (.cells (madeCells #[.int .u32 0] 0) 35)) 22 22 3 35 (some ⟨w.heap.size, 0, none⟩) A 0 0 0 c Try.underlying22 hsz rfl
        exact ⟨_, hrun, by rw [List.length_nil] at hg; rw [hg]; simp [madeCells, flatL], hB0⟩
      · rcases hS with rfl | ⟨b, off, rfl, _, hx⟩
        · cases h0
        · have hrun := run_copy_row (P := Try.prog) (w.alloc (.cells (madeCells #[.int .u32 0] l.length) 35)) 22 22 3 35 w.heap.size 0 l.length l.length ⟨b, off, none⟩ l.length c _ 35 (flatL encU l) Try.underlying22 hsz hg (by rw [hcs]; exact (Nat.min_self _).symm) (fun j v hj => by
            obtain ⟨q, i, x, rfl, h2, h3⟩ := flatL_find encU_len l j v hj
            rw [Addr.add_lit, ← Nat.add_assoc]
            exact hx q x h2 i v h3) (by rw [hcs, size_madeCells]; omega) (one_flatU l)
          rw [hcs] at hrun
          refine ⟨_, hrun, ?_, below_setRow hB0 (Nat.le_refl _) _⟩
          have e : (madeCells #[.int .u32 0] l.length).toList.take 0 ++ flatL encU l ++ (madeCells #[.int .u32 0] l.length).toList.drop (0 + l.length) = flatL encU l := by
            rw [List.take_zero, List.nil_append, List.drop_eq_nil_of_le (by rw [Array.length_toList, size_madeCells]; omega), List.append_nil]
          rw [e]
          exact setRow_heap _ _ _ _ _ _ hg
    have O2 := Lib.hid (show w2.ownsRow w.heap.size 35 1 (.slice (some ⟨w.heap.size, 0, none⟩) l.length l.length) l.length (flatL encU l) from
      ⟨by rw [hcs, Nat.mul_one], .inr ⟨w.heap.size, l.length, _, rfl, Nat.le_refl _, hR2, Nat.le_refl _, by unfold maxLen; omega, by simp [hcs], by rw [Nat.mul_one, List.take_of_length_le (by simp [hcs])]⟩⟩)
    have B2 := Lib.hid hB2
    clear h hB0 hS hg hcs hsz hR2 hB2
    go_enter Try.func33, Try.ntmps33
    go_wp2_with fail
    refine LN.out.mono ?_
    rintro e w1 ⟨rfl, rfl⟩
    go_wp2_with fail
    go_ret
    exact ⟨_, rfl, O2.out, B2.out⟩
end Go.Proofs.Ytefodmbaknedkaa
