/- Responses in plain words: fields, their bounds, their values. No walk. -/
import Derived.Test.YtefodmbaknedkaaVa
import Derived.Test.YtefodmbaknedkaaVb
namespace Go.Proofs.Ytefodmbaknedkaa
open Go.RowKit

/-- A response's fields. -/
structure RI where
  kind : Int
  n : Nat
  tag : List UInt8
  status : Int
  text : List UInt8
  items : Int
  flags : Nat
  uid : Nat
  size : Nat
  body : List UInt8
/-- What the fields keep to. -/
structure RIok (r : RI) : Prop where
  kind : -9223372036854775808 ≤ r.kind ∧ r.kind ≤ 9223372036854775807
  n : r.n ≤ 4294967295
  status : -9223372036854775808 ≤ r.status ∧ r.status ≤ 9223372036854775807
  items : -9223372036854775808 ≤ r.items ∧ r.items ≤ 9223372036854775807
  flags : r.flags ≤ 255
  uid : r.uid ≤ 4294967295
  size : r.size ≤ 4294967295
def rsV (r : RI) (A : Option Addr) (c : Nat) : Value := .agg #[.int .i64 r.kind, .int .u32 (r.n : Int), .string ⟨r.tag.toArray⟩, .int .i64 r.status, .string ⟨r.text.toArray⟩, .int .i64 r.items, .int .u8 (r.flags : Int), .int .u32 (r.uid : Int), .int .u32 (r.size : Int), .slice A r.body.length c]
/-- All fields are equal. -/
def rsSame (a b : RI) : Bool :=
  a.kind == b.kind && ((a.n : Int) == (b.n : Int) && (a.tag == b.tag && (a.status == b.status && (a.text == b.text && (a.items == b.items && ((a.flags : Int) == (b.flags : Int) && ((a.uid : Int) == (b.uid : Int) && ((a.size : Int) == (b.size : Int) && a.body == b.body))))))))
theorem rsSame_iff (a b : RI) : rsSame a b = true ↔ a = b := by
  obtain ⟨a0, a1, a2, a3, a4, a5, a6, a7, a8, a9⟩ := a
  obtain ⟨b0, b1, b2, b3, b4, b5, b6, b7, b8, b9⟩ := b
  simp [rsSame, Int.ofNat_inj]
theorem rsSame_refl (a : RI) : rsSame a a = true := (rsSame_iff a a).2 rfl
def rsZero : RI := ⟨0, 0, [], 0, [], 0, 0, 0, 0, []⟩
end Go.Proofs.Ytefodmbaknedkaa

namespace Go.Proofs.Ytefodmbaknedkaa
open Go.RowKit

theorem cells10 {W : World} {g : Nat} {a0 a1 a2 a3 a4 a5 a6 a7 a8 a9 : Value} {T : TypeId} {z : Nat × Nat} (h : W.heap[g]? = some (.cells #[a0, a1, a2, a3, a4, a5, a6, a7, a8, a9] T z)) :
    W.cell? ⟨g, 0, none⟩ = some a0 ∧ W.cell? ⟨g, 1, none⟩ = some a1 ∧ W.cell? ⟨g, 2, none⟩ = some a2 ∧ W.cell? ⟨g, 3, none⟩ = some a3 ∧ W.cell? ⟨g, 4, none⟩ = some a4 ∧ W.cell? ⟨g, 5, none⟩ = some a5 ∧ W.cell? ⟨g, 6, none⟩ = some a6 ∧ W.cell? ⟨g, 7, none⟩ = some a7 ∧ W.cell? ⟨g, 8, none⟩ = some a8 ∧ W.cell? ⟨g, 9, none⟩ = some a9 :=
  ⟨cell_of_row _ _ 0 _ _ _ h, cell_of_row _ _ 1 _ _ _ h, cell_of_row _ _ 2 _ _ _ h, cell_of_row _ _ 3 _ _ _ h, cell_of_row _ _ 4 _ _ _ h, cell_of_row _ _ 5 _ _ _ h, cell_of_row _ _ 6 _ _ _ h, cell_of_row _ _ 7 _ _ _ h, cell_of_row _ _ 8 _ _ _ h, cell_of_row _ _ 9 _ _ _ h⟩
theorem load10 {W : World} {b o : Nat} {a0 a1 a2 a3 a4 a5 a6 a7 a8 a9 : Value} (h0 : W.cell? ⟨b, o, none⟩ = some a0) (h1 : W.cell? ⟨b, o + 1, none⟩ = some a1) (h2 : W.cell? ⟨b, o + 2, none⟩ = some a2) (h3 : W.cell? ⟨b, o + 3, none⟩ = some a3) (h4 : W.cell? ⟨b, o + 4, none⟩ = some a4) (h5 : W.cell? ⟨b, o + 5, none⟩ = some a5) (h6 : W.cell? ⟨b, o + 6, none⟩ = some a6) (h7 : W.cell? ⟨b, o + 7, none⟩ = some a7) (h8 : W.cell? ⟨b, o + 8, none⟩ = some a8) (h9 : W.cell? ⟨b, o + 9, none⟩ = some a9)
    (s0 : ∃ x, a0 = .int .i64 x) (s1 : ∃ x, a1 = .int .u32 x) (s2 : ∃ x, a2 = .string x) (s3 : ∃ x, a3 = .int .i64 x) (s4 : ∃ x, a4 = .string x) (s5 : ∃ x, a5 = .int .i64 x) (s6 : ∃ x, a6 = .int .u8 x) (s7 : ∃ x, a7 = .int .u32 x) (s8 : ∃ x, a8 = .int .u32 x) (s9 : ∃ A n k, a9 = .slice A n k) :
    (Instr.loadAt 47 (.pointer (some ⟨b, o, none⟩))).run Try.prog W = .ok (.agg #[a0, a1, a2, a3, a4, a5, a6, a7, a8, a9]) W := by
  obtain ⟨v, rfl⟩ := s0
  obtain ⟨v, rfl⟩ := s1
  obtain ⟨v, rfl⟩ := s2
  obtain ⟨v, rfl⟩ := s3
  obtain ⟨v, rfl⟩ := s4
  obtain ⟨v, rfl⟩ := s5
  obtain ⟨v, rfl⟩ := s6
  obtain ⟨v, rfl⟩ := s7
  obtain ⟨v, rfl⟩ := s8
  obtain ⟨_, _, _, rfl⟩ := s9
  simp [go_sem, h0, h1, h2, h3, h4, h5, h6, h7, h8, h9]

theorem below_2box (w : World) (o1 o2 : Obj) : Below w.heap.size w ((w.alloc o1).alloc o2) := below_next (below_al w o1) (below_al _ o2)
/-- The response lies in the block g. -/
def RsBox (g : Nat) (r : RI) (A : Option Addr) (k : Nat) (W : World) : Prop := W.heap[g]? = some (.cells #[.int .i64 r.kind, .int .u32 (r.n : Int), .string ⟨r.tag.toArray⟩, .int .i64 r.status, .string ⟨r.text.toArray⟩, .int .i64 r.items, .int .u8 (r.flags : Int), .int .u32 (r.uid : Int), .int .u32 (r.size : Int), .slice A r.body.length k] 47 (0, 0))
section
variable {g : Nat} {r : RI} {A : Option Addr} {k : Nat} {W W' : World}
theorem RsBox.lt (h : RsBox g r A k W) : g < W.heap.size := (Array.getElem?_eq_some_iff.1 h).1
theorem RsBox.below (h : RsBox g r A k W) (hb : Below W.heap.size W W') : RsBox g r A k W' := (hb.block g h.lt).trans h
theorem RsBox.new (W : World) (r : RI) (A : Option Addr) (k : Nat) : RsBox W.heap.size r A k (W.alloc (.cells #[.int .i64 r.kind, .int .u32 (r.n : Int), .string ⟨r.tag.toArray⟩, .int .i64 r.status, .string ⟨r.text.toArray⟩, .int .i64 r.items, .int .u8 (r.flags : Int), .int .u32 (r.uid : Int), .int .u32 (r.size : Int), .slice A r.body.length k] 47)) := heap_alloc_new W _
theorem RsBox.cells (h : RsBox g r A k W) : W.cell? ⟨g, 0, none⟩ = some (.int .i64 r.kind) ∧ W.cell? ⟨g, 1, none⟩ = some (.int .u32 (r.n : Int)) ∧ W.cell? ⟨g, 2, none⟩ = some (.string ⟨r.tag.toArray⟩) ∧ W.cell? ⟨g, 3, none⟩ = some (.int .i64 r.status) ∧ W.cell? ⟨g, 4, none⟩ = some (.string ⟨r.text.toArray⟩) ∧ W.cell? ⟨g, 5, none⟩ = some (.int .i64 r.items) ∧ W.cell? ⟨g, 6, none⟩ = some (.int .u8 (r.flags : Int)) ∧ W.cell? ⟨g, 7, none⟩ = some (.int .u32 (r.uid : Int)) ∧ W.cell? ⟨g, 8, none⟩ = some (.int .u32 (r.size : Int)) ∧ W.cell? ⟨g, 9, none⟩ = some (.slice A r.body.length k) := cells10 h
theorem RsBox.load (h : RsBox g r A k W) : (Instr.loadAt 47 (.pointer (some ⟨g, 0, none⟩))).run Try.prog W = .ok (rsV r A k) W := by
  obtain ⟨x0, x1, x2, x3, x4, x5, x6, x7, x8, x9⟩ := cells10 h
  exact load10 x0 x1 x2 x3 x4 x5 x6 x7 x8 x9 ⟨_, rfl⟩ ⟨_, rfl⟩ ⟨_, rfl⟩ ⟨_, rfl⟩ ⟨_, rfl⟩ ⟨_, rfl⟩ ⟨_, rfl⟩ ⟨_, rfl⟩ ⟨_, rfl⟩ ⟨_, _, _, rfl⟩
end
end Go.Proofs.Ytefodmbaknedkaa

namespace Go.Proofs.Ytefodmbaknedkaa
open Go.RowKit

/-- A response where it lies. -/
structure RX where
  r : RI
  A : Option Addr
  k : Nat
def encRx (x : RX) : List Value := [.int .i64 x.r.kind, .int .u32 (x.r.n : Int), .string ⟨x.r.tag.toArray⟩, .int .i64 x.r.status, .string ⟨x.r.text.toArray⟩, .int .i64 x.r.items, .int .u8 (x.r.flags : Int), .int .u32 (x.r.uid : Int), .int .u32 (x.r.size : Int), .slice x.A x.r.body.length x.k]
theorem encRx_len (x : RX) : (encRx x).length = 10 := rfl
structure RsAt (w : World) (A : Option Addr) (xs : List RX) : Prop where
  sl : SlAt encRx 10 w A xs
  each : ∀ x ∈ xs, ByAt w.heap.size w x.A x.k x.r.body
theorem RsAt.below {w W : World} {A : Option Addr} {xs : List RX} (h : RsAt w A xs) (hb : Below w.heap.size w W) : RsAt W A xs :=
  ⟨h.sl.below hb, fun x hx => ((h.each x hx).below hb).mono hb.size⟩
theorem RsAt.at {w : World} {A : Option Addr} {xs : List RX} (h : RsAt w A xs) {j : Nat} (hj : j < xs.length) :
    ∃ b off, A = some ⟨b, off, none⟩ ∧ b < w.heap.size ∧ w.cell? ⟨b, off + j * 10, none⟩ = some (.int .i64 xs[j].r.kind) ∧ w.cell? ⟨b, off + j * 10 + 1, none⟩ = some (.int .u32 (xs[j].r.n : Int)) ∧ w.cell? ⟨b, off + j * 10 + 2, none⟩ = some (.string ⟨xs[j].r.tag.toArray⟩) ∧ w.cell? ⟨b, off + j * 10 + 3, none⟩ = some (.int .i64 xs[j].r.status) ∧ w.cell? ⟨b, off + j * 10 + 4, none⟩ = some (.string ⟨xs[j].r.text.toArray⟩) ∧ w.cell? ⟨b, off + j * 10 + 5, none⟩ = some (.int .i64 xs[j].r.items) ∧ w.cell? ⟨b, off + j * 10 + 6, none⟩ = some (.int .u8 (xs[j].r.flags : Int)) ∧ w.cell? ⟨b, off + j * 10 + 7, none⟩ = some (.int .u32 (xs[j].r.uid : Int)) ∧ w.cell? ⟨b, off + j * 10 + 8, none⟩ = some (.int .u32 (xs[j].r.size : Int)) ∧ w.cell? ⟨b, off + j * 10 + 9, none⟩ = some (.slice xs[j].A xs[j].r.body.length xs[j].k) := by
  obtain ⟨b, off, hA, hb, hc⟩ := h.sl.at_ hj
  exact ⟨b, off, hA, hb, hc 0 _ rfl, hc 1 _ rfl, hc 2 _ rfl, hc 3 _ rfl, hc 4 _ rfl, hc 5 _ rfl, hc 6 _ rfl, hc 7 _ rfl, hc 8 _ rfl, hc 9 _ rfl⟩
theorem RsAt.load {w : World} {A : Option Addr} {xs : List RX} (h : RsAt w A xs) {j : Nat} (hj : j < xs.length) {b off : Nat} (hA : A = some ⟨b, off, none⟩) :
    (Instr.loadAt 47 (.pointer (some ⟨b, off + j * 10, none⟩))).run Try.prog w = .ok (rsV xs[j].r xs[j].A xs[j].k) w := by
  obtain ⟨b', off', hA', _, c0, c1, c2, c3, c4, c5, c6, c7, c8, c9⟩ := h.at hj
  rw [hA] at hA'
  obtain ⟨rfl, rfl⟩ : b = b' ∧ off = off' := by injection hA' with h; injection h with h1 h2; exact ⟨h1, h2⟩
  exact load10 c0 c1 c2 c3 c4 c5 c6 c7 c8 c9 ⟨_, rfl⟩ ⟨_, rfl⟩ ⟨_, rfl⟩ ⟨_, rfl⟩ ⟨_, rfl⟩ ⟨_, rfl⟩ ⟨_, rfl⟩ ⟨_, rfl⟩ ⟨_, rfl⟩ ⟨_, _, _, rfl⟩
theorem index_rs (b off n c k : Nat) (hk : k < n) (W : World) : (Instr.indexAt 29 (.slice (some ⟨b, off, none⟩) n c) (.int .i64 (k : Int))).run Try.prog W = .ok (.pointer (some ⟨b, off + k * 10, none⟩)) W := by
  have hk0 : (0 : Int) ≤ (k : Int) := by omega
  have hk1 : (k : Int) < (n : Int) := by omega
  go_simp
/-- A new row of one response, of two. -/
theorem rsAt_one {w : World} {r : RI} {A : Option Addr} {k : Nat} (hA : ByAt w.heap.size w A k r.body) : RsAt (w.alloc (.cells (encRx ⟨r, A, k⟩).toArray 47)) (some ⟨w.heap.size, 0, none⟩) [⟨r, A, k⟩] := by
  refine ⟨.inr ⟨w.heap.size, 0, rfl, by simp, fun j x hj i v hi => ?_⟩, fun x hx => ?_⟩
  · have hj0 : j = 0 := by have := (List.getElem?_eq_some_iff.1 hj).1; simpa using this
    subst hj0
    obtain rfl : (⟨r, A, k⟩ : RX) = x := by simpa using hj
    rw [show 0 + 0 * 10 + i = i by omega, cell_of_row _ w.heap.size i _ _ _ (heap_alloc_new w _)]
    simpa using hi
  · obtain rfl := List.mem_singleton.1 hx
    exact (hA.below (below_al w _)).here
theorem rsAt_two {w : World} {r r2 : RI} {A A2 : Option Addr} {k k2 : Nat} (hA : ByAt w.heap.size w A k r.body) (hA2 : ByAt w.heap.size w A2 k2 r2.body) : RsAt (w.alloc (.cells (encRx ⟨r, A, k⟩ ++ encRx ⟨r2, A2, k2⟩).toArray 47)) (some ⟨w.heap.size, 0, none⟩) [⟨r, A, k⟩, ⟨r2, A2, k2⟩] := by
  refine ⟨.inr ⟨w.heap.size, 0, rfl, by simp, fun j x hj i v hi => ?_⟩, fun x hx => ?_⟩
  · have hi10 : i < 10 := by have := (List.getElem?_eq_some_iff.1 hi).1; rwa [encRx_len] at this
    have hj2 : j < 2 := by have := (List.getElem?_eq_some_iff.1 hj).1; simpa using this
    rw [Nat.zero_add, cell_of_row _ w.heap.size (j * 10 + i) _ _ _ (heap_alloc_new w _)]
    have hc : j = 0 ∨ j = 1 := by omega
    rcases hc with rfl | rfl
    · obtain rfl : (⟨r, A, k⟩ : RX) = x := by simpa using hj
      rw [Nat.zero_mul, Nat.zero_add, List.getElem?_toArray, List.getElem?_append_left (by rw [encRx_len]; exact hi10)]
      exact hi
    · obtain rfl : (⟨r2, A2, k2⟩ : RX) = x := by simpa using hj
      rw [List.getElem?_toArray, List.getElem?_append_right (by rw [encRx_len]; omega), encRx_len, Nat.one_mul, Nat.add_sub_cancel_left]
      exact hi
  · simp only [List.mem_cons, List.not_mem_nil, or_false] at hx
    rcases hx with rfl | rfl
    · exact (hA.below (below_al w _)).here
    · exact (hA2.below (below_al w _)).here
theorem infoRs : (Try.prog.info? 47).map (fun i => (i.zero, i.size, i.bytes)) = some (some (.agg #[.int .i64 0, .int .u32 0, .string ⟨#[]⟩, .int .i64 0, .string ⟨#[]⟩, .int .i64 0, .int .u8 0, .int .u32 0, .int .u32 0, .slice none 0 0]), 10, 104) := by kernel_rfl
end Go.Proofs.Ytefodmbaknedkaa
