/- index: the block and the row of an index; what its calls leave; what reads it. -/
import Derived.Test.YtkehlknnonppjaaSorted12
import Derived.Laws.NewBlocks
import Derived.Lib.SmallJoins
import Derived.Shelf.SlSorted.Search
namespace Go.Proofs.Ytkehlknnonppjaa
open Go.RowKit Go.Shelf

/-- All memory is as it was, but for the blocks g and r, and new ones. -/
structure Two (g r : Nat) (w w' : World) : Prop where
  os : w'.os = w.os
  tape : w'.tape = w.tape
  output : w'.output = w.output
  size : w.heap.size ≤ w'.heap.size
  block : ∀ k, k < w.heap.size → k ≠ g → k ≠ r → w'.heap[k]? = w.heap[k]?
theorem Two.refl (g r : Nat) (w : World) : Two g r w w := ⟨rfl, rfl, rfl, Nat.le_refl _, fun _ _ _ _ => rfl⟩
theorem Two.trans {g r : Nat} {a b c : World} (h : Two g r a b) (k : Two g r b c) : Two g r a c :=
  ⟨k.os.trans h.os, k.tape.trans h.tape, k.output.trans h.output, Nat.le_trans h.size k.size, fun i hi h1 h2 => (k.block i (Nat.lt_of_lt_of_le hi h.size) h1 h2).trans (h.block i hi h1 h2)⟩
theorem Two.of_below {g r : Nat} {a b : World} (h : Below a.heap.size a b) : Two g r a b := ⟨h.os, h.tape, h.output, h.size, fun k hk _ _ => h.block k hk⟩
theorem Two.of_grown {g r x : Nat} {a b : World} (h : a.grownBy b (some x)) (hx : x < a.heap.size → x = g ∨ x = r) : Two g r a b :=
  ⟨h.os, h.tape, h.output, h.size, fun k hk h1 h2 => h.block k hk (fun e => by
    obtain rfl : k = x := Option.some.inj e
    rcases hx hk with h | h
    · exact h1 h
    · exact h2 h)⟩
/-- The row moves to a block that is new. -/
theorem Two.move {g r r' : Nat} {a b c : World} (h : Two g r a b) (hr : r' = r ∨ a.heap.size ≤ r') (k : Two g r' b c) : Two g r a c :=
  ⟨k.os.trans h.os, k.tape.trans h.tape, k.output.trans h.output, Nat.le_trans h.size k.size, fun i hi h1 h2 => (k.block i (Nat.lt_of_lt_of_le hi h.size) h1 (by omega)).trans (h.block i hi h1 h2)⟩
theorem Two.below {g r B : Nat} {a b : World} (h : Two g r a b) (hg : B ≤ g) (hr : B ≤ r) (hB : B ≤ a.heap.size) : Below B a b :=
  ⟨h.os, h.tape, h.output, h.size, fun k hk => h.block k (by omega) (by omega) (by omega)⟩
/-- A slice of numbers in its own block. -/
def SlB (bk : Nat) (w : World) (A : Option Addr) (l : List Nat) : Prop := l = [] ∨ ∃ off : Nat, A = some ⟨bk, off, none⟩ ∧ bk < w.heap.size ∧ ∀ j x : Nat, l[j]? = some x → w.cell? ⟨bk, off + j, none⟩ = some (.int .u32 (x : Int))
theorem SlB.at {bk : Nat} {w : World} {A : Option Addr} {l : List Nat} (h : SlB bk w A l) : SlAt encU 1 w A l := by
  rcases h with rfl | ⟨off, rfl, hb, hc⟩
  · exact .inl rfl
  · refine .inr ⟨bk, off, rfl, hb, fun j x hj i v hi => ?_⟩
    obtain rfl : i = 0 := by
      have := (List.getElem?_eq_some_iff.1 hi).1
      simpa [encU] using this
    obtain rfl : v = .int .u32 (x : Int) := by simpa [encU] using hi.symm
    simpa using hc j x hj
theorem cell_blk {w w' : World} {b o : Nat} (h : w'.heap[b]? = w.heap[b]?) : w'.cell? ⟨b, o, none⟩ = w.cell? ⟨b, o, none⟩ := by unfold World.cell?; rw [h]
theorem SlB.two {bk g r : Nat} {w w' : World} {A : Option Addr} {l : List Nat} (h : SlB bk w A l) (k : Two g r w w') (hg : bk ≠ g) (hr : bk ≠ r) : SlB bk w' A l := by
  rcases h with rfl | ⟨off, rfl, hb, hc⟩
  · exact .inl rfl
  · exact .inr ⟨off, rfl, Nat.lt_of_lt_of_le hb k.size, fun j x hj => (cell_blk (k.block bk hb hg hr)).trans (hc j x hj)⟩
theorem SlB.below {bk : Nat} {w w' : World} {A : Option Addr} {l : List Nat} (h : SlB bk w A l) (k : Below w.heap.size w w') : SlB bk w' A l := by
  rcases h with rfl | ⟨off, rfl, hb, hc⟩
  · exact .inl rfl
  · exact .inr ⟨off, rfl, Nat.lt_of_lt_of_le hb k.size, fun j x hj => (cell_blk (k.block bk hb)).trans (hc j x hj)⟩
theorem SlB.of_own {B : Nat} {w : World} {v : Value} {l : List Nat} (h : w.ownsRow B 28 1 v l.length (flatL encU l)) : ∃ bk A c, v = .slice A l.length c ∧ SlB bk w A l ∧ (B ≤ bk ∧ (bk < w.heap.size ∨ bk = B)) := by
  obtain ⟨A, c, rfl⟩ := own_any h
  rcases h.2 with ⟨_, h2⟩ | ⟨g, cap, cur, h1, hB, hg, _⟩
  · exact ⟨B, A, c, rfl, .inl (List.eq_nil_of_length_eq_zero h2), Nat.le_refl _, .inr rfl⟩
  · have hlt := (Array.getElem?_eq_some_iff.1 hg).1
    have hS := SlAt.of_own encU_len h
    injection h1 with h1
    subst h1
    rcases hS with rfl | ⟨b, off, hA, hb, hc⟩
    · exact ⟨g, _, c, rfl, .inl rfl, hB, .inl hlt⟩
    · injection hA with hA
      injection hA with hA1 hA2
      subst hA1
      subst hA2
      exact ⟨g, _, c, rfl, .inr ⟨0, rfl, hb, fun j x hj => by simpa using hc j x hj 0 _ rfl⟩, hB, .inl hlt⟩

/-- The index in block g has the identifiers l; they lie in block r (in none yet: r is g). -/
structure Ix (g r : Nat) (l : List Nat) (w : World) : Prop where
  st : ∃ A c, w.heap[g]? = some (.cells #[.slice A l.length c] 51 (0, 0)) ∧ w.ownsRow 0 28 1 (.slice A l.length c) l.length (flatL encU l) ∧ ((A = none ∧ r = g) ∨ (A = some ⟨r, 0, none⟩ ∧ r ≠ g ∧ r < w.heap.size))
  asc : l.Pairwise (· < ·)
  pos : ∀ n ∈ l, 0 < n ∧ n ≤ 4294967295
  len : l.length ≤ 100000
variable {g r : Nat} {l : List Nat} {w w' : World}
theorem Ix.lt (h : Ix g r l w) : g < w.heap.size := by obtain ⟨A, c, hb, _⟩ := h.st; exact (Array.getElem?_eq_some_iff.1 hb).1
theorem Ix.ltr (h : Ix g r l w) : r < w.heap.size := by
  obtain ⟨A, c, hb, _, ⟨_, rfl⟩ | ⟨_, _, hr⟩⟩ := h.st
  · exact (Array.getElem?_eq_some_iff.1 hb).1
  · exact hr
theorem own_block {base : Nat} {A : Option Addr} {n c : Nat} {xs : List Value} (h : w.ownsRow base 28 1 (.slice A n c) n xs) (hb : ∀ a, A = some a → w'.heap[a.block]? = w.heap[a.block]?) : w'.ownsRow base 28 1 (.slice A n c) n xs := by
  refine ⟨h.1, h.2.imp id ?_⟩
  rintro ⟨k, cap, cur, h1, h2, h3, h4⟩
  have hA : A = some ⟨k, 0, none⟩ := by injection h1
  exact ⟨k, cap, cur, h1, h2, (hb _ hA).trans h3, h4⟩
theorem Ix.keep (h : Ix g r l w) (hs : w.heap.size ≤ w'.heap.size) (hg : w'.heap[g]? = w.heap[g]?) (hr : w'.heap[r]? = w.heap[r]?) : Ix g r l w' := by
  obtain ⟨A, c, h1, h2, h3⟩ := h.st
  refine ⟨⟨A, c, hg.trans h1, own_block h2 (fun a ha => ?_), h3.imp id (fun h => ⟨h.1, h.2.1, Nat.lt_of_lt_of_le h.2.2 hs⟩)⟩, h.asc, h.pos, h.len⟩
  rcases h3 with ⟨rfl, _⟩ | ⟨rfl, _⟩
  · cases ha
  · obtain rfl := Option.some.inj ha
    exact hr
theorem Ix.below (h : Ix g r l w) (hb : Below w.heap.size w w') : Ix g r l w' := h.keep hb.size (hb.block g h.lt) (hb.block r h.ltr)
theorem Ix.grown {x : Nat} (h : Ix g r l w) (hb : w.grownBy w' (some x)) (hg : g ≠ x) (hr : r ≠ x) : Ix g r l w' :=
  h.keep hb.size (hb.block g h.lt (fun e => hg (Option.some.inj e))) (hb.block r h.ltr (fun e => hr (Option.some.inj e)))
/-- The block's cell; the row as a slice. -/
theorem Ix.open (h : Ix g r l w) : ∃ A c, w.cell? ⟨g, 0, none⟩ = some (.slice A l.length c) ∧ w.frozen? ⟨g, 0, none⟩ = false ∧ SlAt encU 1 w A l ∧ (A = none → c = 0) ∧ l.length ≤ c := by
  obtain ⟨A, c, h1, h2, h3⟩ := h.st
  refine ⟨A, c, cell_of_row w g 0 _ _ _ h1, Joins.unfrozen_of_block h1 0, SlAt.of_own encU_len h2, fun hA => ?_, own_cap h2⟩
  rcases h2.2 with ⟨h4, _⟩ | ⟨k, cap, cur, h4, _⟩
  · injection h4
  · injection h4 with h5
    rw [hA] at h5
    cases h5

set_option maxRecDepth 100000 in
theorem ixlen_any (h : Ix g r l w) :
    Calls Try.prog 16 #[.pointer (some ⟨g, 0, none⟩)] w fun e w' => e = .returned (.int .i64 (l.length : Nat)) ∧ w = w' := by
  obtain ⟨A, c, hc, _⟩ := h.open
  clear h
  go_enter Try.func16, Try.ntmps16
  go_wp2_with fail
  go_ret
  exact ⟨rfl, rfl⟩
theorem ixlen_nil (w : World) :
    Calls Try.prog 16 #[.pointer none] w fun e w' => e = .returned (.int .i64 0) ∧ w = w' := by
  go_enter Try.func16, Try.ntmps16
  go_wp2_with fail
  go_ret
  exact ⟨rfl, rfl⟩

/-- What lies at a place. -/
def atL (l : List Nat) (p : Int) : Nat × Bool := if 1 ≤ p ∧ p ≤ l.length then (l[(p - 1).toNat]!, true) else (0, false)

set_option maxRecDepth 100000 in
theorem ixat_any (p : Int) (hp1 : -9223372036854775808 ≤ p) (hp2 : p ≤ 9223372036854775807) (h : Ix g r l w) :
    Calls Try.prog 20 #[.pointer (some ⟨g, 0, none⟩), .int .i64 p] w fun e w' => e = .returned (.tuple #[.int .u32 ((atL l p).1 : Nat), .bool (atL l p).2]) ∧ w = w' := by
  obtain ⟨A, c, hc, _, hS, hA0, hcl⟩ := h.open
  have LN := Lib.hid (ixlen_any h)
  have hll := h.len
  unfold atL
  clear h
  by_cases h1 : p < 1
  · rw [if_neg (by omega)]
    go_enter Try.func20, Try.ntmps20
    go_wp2_with fail
    go_ret2
    exact ⟨rfl, rfl⟩
  · by_cases h2 : p ≤ l.length
    · rw [if_pos ⟨by omega, h2⟩]
      obtain ⟨k, hk, hkl⟩ : ∃ k : Nat, p = (k : Int) + 1 ∧ k < l.length := ⟨(p - 1).toNat, by omega, by omega⟩
      subst hk
      obtain ⟨b, off, rfl, hb, hx⟩ := hS.one hkl
      have e1 : ((k : Int) + 1 - 1).toNat = k := by omega
      rw [e1, getElem!_pos l k hkl]
      clear hS e1 hA0
      generalize l[k] = x at *
      have h3 : ¬ (l.length : Int) < (k : Int) + 1 := by omega
      have hk9 : k < 100000 := by omega
      have e2 : (k : Int) + 1 - 1 = (k : Int) := by omega
      clear hp1 hp2 h2 h1 hll
      go_enter Try.func20, Try.ntmps20
      go_wp2_with fail
      refine LN.out.mono ?_
      rintro e w1 ⟨rfl, rfl⟩
      go_wp2_with fail
      go_ret2
      exact ⟨rfl, rfl⟩
    · rw [if_neg (by omega)]
      have h3 : (l.length : Int) < p := by omega
      have h1 : 1 ≤ p := by omega
      clear hS hA0 h2 hc hll hcl hp1
      go_enter Try.func20, Try.ntmps20
      go_wp2_with fail
      refine LN.out.mono ?_
      rintro e w1 ⟨rfl, rfl⟩
      go_wp2_with fail
      go_ret2
      exact ⟨rfl, rfl⟩
set_option maxRecDepth 100000 in
theorem ixat_nil (p : Int) (hp1 : -9223372036854775808 ≤ p) (hp2 : p ≤ 9223372036854775807) (w : World) :
    Calls Try.prog 20 #[.pointer none, .int .i64 p] w fun e w' => e = .returned (.tuple #[.int .u32 0, .bool false]) ∧ w = w' := by
  have LN := Lib.hid (ixlen_nil w)
  by_cases h1 : p < 1
  · go_enter Try.func20, Try.ntmps20
    go_wp2_with fail
    go_ret2
    exact ⟨rfl, rfl⟩
  · have h3 : (0 : Int) < p := by omega
    have h1 : 1 ≤ p := by omega
    clear hp1
    go_enter Try.func20, Try.ntmps20
    go_wp2_with fail
    refine LN.out.mono ?_
    rintro e w1 ⟨rfl, rfl⟩
    go_wp2_with fail
    go_ret2
    exact ⟨rfl, rfl⟩
end Go.Proofs.Ytkehlknnonppjaa
