/- The lock table: what is read of it: Len, Owner, Free, Acquired, Held; a nil table. -/
import Derived.Test.YtpfplniokjkcbaaLkT
import Derived.Laws.LoneSync
import Derived.Lib.LazyBuf
import Derived.Lib.SmallJoins
namespace Go.Proofs.Ytpfplniokjkcbaa
open Go.RowKit Go.Maps

theorem zeroI14 (w : World) : (zeroValue 3).run Try.prog w = .ok (.int .i64 0) w := by kernel_rfl
theorem zeroS14 (w : World) : (zeroValue 26).run Try.prog w = .ok (.slice none 0 0) w := by kernel_rfl
section
variable {R : LR} {g q : Nat} {S : Nat → Prop} {L : List Int} {w : World}
/-- The owner of a lock, as the map tells it. -/
theorem LkX.lookO (h : LkX R g S L q w) {k : Int} (hk : I64 k) (n : Nat) : (Instr.lookup 59 (.map (some R.ob)) (.int .i64 k) true).run Try.prog (w.drewN n) = .ok (.tuple #[.int .i64 (max (ownL L k) 0), .bool (decide (0 ≤ ownL L k))]) (w.drewN n) := by
  obtain ⟨c, _, m⟩ := h.mo
  have := (show MapZ (w.drewN n) R.ob c (GO L) c from m).look (t := 59) Try.underlying59 (zeroI14 _) hk
  rw [this]
  unfold GO
  by_cases e : 0 ≤ ownL L k
  · rw [if_pos e, decide_eq_true e, Int.max_eq_left e]
    rfl
  · rw [if_neg e, decide_eq_false e, Int.max_eq_right (by omega)]
    rfl
/-- What an owner holds, as the map tells it. -/
theorem LkX.lookH (h : LkX R g S L q w) {o : Int} (ho : I64 o) (n : Nat) : (Instr.lookup 60 (.map (some R.hb)) (.int .i64 o) false).run Try.prog (w.drewN n) = .ok (R.val L o) (w.drewN n) := by
  obtain ⟨c, _, m⟩ := h.mh
  have := (show MapZ (w.drewN n) R.hb c (GH R L) c from m).look1 (t := 60) Try.underlying60 (zeroS14 _) ho
  rw [this, GH_getD]
/-- No lock is held: the map of the owners is empty. -/
theorem LkX.free (h : LkX R g S L q w) : ∃ c, MapZ w R.ob c (GO L) c ∧ (freeL L = true ↔ c = 0) := by
  obtain ⟨c, _, m⟩ := h.mo
  refine ⟨c, m, ?_⟩
  obtain ⟨K, h1, h2, h3⟩ := m.keys
  rw [freeL_iff]
  constructor
  · intro e
    rw [← h2]
    refine List.eq_nil_iff_length_eq_zero.1 (List.eq_nil_iff_forall_not_mem.2 fun u hu => ?_)
    have := ((h3 u).1 hu).2
    unfold GO at this
    rw [if_neg (by have := e u; omega)] at this
    cases this
  · intro e x
    by_cases e0 : 0 ≤ ownL L x
    · exfalso
      have hr := ownL_lt e0
      have hl := h.len
      have hx : x ∈ K := (h3 x).2 ⟨⟨by omega, by omega⟩, by unfold GO; rw [if_pos e0]; rfl⟩
      have := List.length_pos_of_mem hx
      omega
    · omega

set_option maxRecDepth 100000 in
theorem lklen_any (h : LkT g S L q w) : Calls Try.prog 12 #[.pointer (some ⟨g, 0, none⟩)] w fun e w' => e = .returned (.int .i64 (L.length : Int)) ∧ Below w.heap.size w w' := by
  obtain ⟨R, h⟩ := h
  obtain ⟨c0, c1, c2, c3⟩ := h.cells
  clear h
  go_enter Try.func12, Try.ntmps12
  go_wp2_with fail
  go_ret
  exact ⟨rfl, Below.refl _ _⟩
theorem lklen_nil (w : World) : Calls Try.prog 12 #[.pointer none] w fun e w' => e = .returned (.int .i64 0) ∧ Below w.heap.size w w' := by
  go_enter Try.func12, Try.ntmps12
  go_wp2_with fail
  go_ret
  exact ⟨rfl, Below.refl _ _⟩
set_option maxRecDepth 100000 in
theorem lkown_x (k : Int) (hk : I64 k) (h : LkX R g S L q w) :
    Calls Try.prog 17 #[.pointer (some ⟨g, 0, none⟩), .int .i64 k] w fun e w' => e = .returned (.tuple #[.int .i64 (max (ownL L k) 0), .bool (decide (0 ≤ ownL L k))]) ∧ w = w' := by
  obtain ⟨c0, c1, c2, c3⟩ := h.cells
  have hl : (Instr.lookup 59 (.map (some R.ob)) (.int .i64 k) true).run Try.prog w = .ok (.tuple #[.int .i64 (max (ownL L k) 0), .bool (decide (0 ≤ ownL L k))]) w := h.lookO hk 0
  clear h
  generalize max (ownL L k) 0 = x at *
  generalize decide (0 ≤ ownL L k) = y at *
  go_enter Try.func17, Try.ntmps17
  go_wp2_with fail
  go_ret2
  exact ⟨rfl, rfl⟩
theorem lkown_any (k : Int) (hk : -9223372036854775808 ≤ k ∧ k ≤ 9223372036854775807) (h : LkT g S L q w) :
    Calls Try.prog 17 #[.pointer (some ⟨g, 0, none⟩), .int .i64 k] w fun e w' => e = .returned (.tuple #[.int .i64 (max (ownL L k) 0), .bool (decide (0 ≤ ownL L k))]) ∧ Below w.heap.size w w' := by
  obtain ⟨R, h⟩ := h
  refine (lkown_x k hk h).mono ?_
  rintro e w' ⟨rfl, rfl⟩
  exact ⟨rfl, Below.refl _ _⟩
theorem lkown_nilx (k : Int) (w : World) : Calls Try.prog 17 #[.pointer none, .int .i64 k] w fun e w' => e = .returned (.tuple #[.int .i64 0, .bool false]) ∧ w = w' := by
  go_enter Try.func17, Try.ntmps17
  go_wp2_with fail
  go_ret2
  exact ⟨rfl, rfl⟩
theorem lkown_nil (k : Int) (w : World) : Calls Try.prog 17 #[.pointer none, .int .i64 k] w fun e w' => e = .returned (.tuple #[.int .i64 0, .bool false]) ∧ Below w.heap.size w w' :=
  (lkown_nilx k w).mono fun _ _ ⟨h1, h2⟩ => ⟨h1, by subst h2; exact Below.refl _ _⟩
set_option maxRecDepth 100000 in
/-- holds: whether an owner holds a lock. -/
theorem lkholds_x (o k : Int) (hk : I64 k) (h : LkX R g S L q w) :
    Calls Try.prog 30 #[.pointer (some ⟨g, 0, none⟩), .int .i64 o, .int .i64 k] w fun e w' => e = .returned (.bool (decide (ownL L k = o ∧ 0 ≤ ownL L k))) ∧ w = w' := by
  have C := Lib.hid (lkown_x k hk h)
  clear h hk
  by_cases e0 : 0 ≤ ownL L k
  · rw [decide_eq_true e0, Int.max_eq_left e0] at C
    by_cases e1 : ownL L k = o
    · rw [decide_eq_true ⟨e1, e0⟩]
      generalize ownL L k = x at *
      subst e1
      clear e0
      go_enter Try.func30, Try.ntmps30
      go_wp2_with fail
      refine C.out.mono ?_
      rintro e w1 ⟨rfl, rfl⟩
      clear C
      go_wp2_with fail
      go_ret
      exact ⟨rfl, rfl⟩
    · rw [decide_eq_false fun e => e1 e.1]
      generalize ownL L k = x at *
      have hxo : (x == o) = false := beq_eq_false_iff_ne.2 e1
      clear e0 e1
      go_enter Try.func30, Try.ntmps30
      go_wp2_with fail
      refine C.out.mono ?_
      rintro e w1 ⟨rfl, rfl⟩
      clear C
      go_wp2_with fail
      go_ret
      exact ⟨rfl, rfl⟩
  · rw [decide_eq_false e0] at C
    rw [decide_eq_false fun e => e0 e.2]
    generalize max (ownL L k) 0 = x at *
    clear e0
    go_enter Try.func30, Try.ntmps30
    go_wp2_with fail
    refine C.out.mono ?_
    rintro e w1 ⟨rfl, rfl⟩
    clear C
    go_wp2_with fail
    go_ret
    exact ⟨rfl, rfl⟩
set_option maxRecDepth 100000 in
theorem lkholds_nil (o k : Int) (w : World) :
    Calls Try.prog 30 #[.pointer none, .int .i64 o, .int .i64 k] w fun e w' => e = .returned (.bool false) ∧ w = w' := by
  have C := Lib.hid (lkown_nilx k w)
  go_enter Try.func30, Try.ntmps30
  go_wp2_with fail
  refine C.out.mono ?_
  rintro e w1 ⟨rfl, rfl⟩
  clear C
  go_wp2_with fail
  go_ret
  exact ⟨rfl, rfl⟩
set_option maxRecDepth 100000 in
theorem lkfree_any (h : LkT g S L q w) : Calls Try.prog 22 #[.pointer (some ⟨g, 0, none⟩)] w fun e w' => e = .returned (.bool (freeL L)) ∧ Below w.heap.size w w' := by
  obtain ⟨R, h⟩ := h
  obtain ⟨c0, c1, c2, c3⟩ := h.cells
  obtain ⟨c, m, hc⟩ := h.free
  have hl := m.len (t := 59) Try.underlying59 3
  clear h m
  cases hf : freeL L with
  | true =>
    obtain rfl := hc.1 hf
    clear hf hc
    go_enter Try.func22, Try.ntmps22
    go_wp2_with fail
    go_ret
    exact ⟨rfl, Below.refl _ _⟩
  | false =>
    have h0 : ¬ (c : Int) = 0 := fun e => by
      have := hc.2 (by omega)
      rw [hf] at this
      cases this
    have h1 : ((c : Int) == 0) = false := beq_eq_false_iff_ne.2 h0
    clear hf hc h0
    go_enter Try.func22, Try.ntmps22
    go_wp2_with fail
    go_ret
    exact ⟨rfl, Below.refl _ _⟩
theorem lkfree_nil (w : World) : Calls Try.prog 22 #[.pointer none] w fun e w' => e = .returned (.bool false) ∧ Below w.heap.size w w' := by
  go_enter Try.func22, Try.ntmps22
  go_wp2_with fail
  go_ret
  exact ⟨rfl, Below.refl _ _⟩
set_option maxHeartbeats 1000000 in
theorem ldi64_any (a : Addr) (x : Int) (w : World) (hc : w.cell? a = some (.int .i64 x)) :
    Calls Try.prog 33 #[.pointer (some a)] w fun e w' => e = .returned (.int .i64 x) ∧ w = w' := by
  have hl := run_call_load (P := Try.prog) Try.func39 (by kernel_rfl) (by kernel_rfl) (by kernel_rfl) .i64 (by kernel_rfl) hc
  go_enter Try.func33, Try.ntmps33
  go_wp2
  go_ret
  exact ⟨rfl, rfl⟩
set_option maxHeartbeats 1000000 in
theorem addi64_any (a : Addr) (x : Int) (h1 : 0 ≤ x) (h2 : x ≤ 1000000) (w : World) (hc : w.cell? a = some (.int .i64 x)) (hz : w.frozen? a = false) :
    Calls Try.prog 31 #[.pointer (some a), .int .i64 1] w fun e w' => e = .returned (.int .i64 (x + 1)) ∧ w' = w.setCell a (.int .i64 (x + 1)) := by
  have hst := run_call_add (P := Try.prog) Try.func38 (by kernel_rfl) (by kernel_rfl) (by kernel_rfl) .i64 (by kernel_rfl) (y := 1) (s := x + 1) hc hz (by simp [go_sem, IntKind.wrap]; try omega)
  go_enter Try.func31, Try.ntmps31
  go_wp2
  go_ret
  exact ⟨rfl, rfl⟩
set_option maxRecDepth 100000 in
theorem lkcnt_any (_hq : q ≤ 1000000) (h : LkT g S L q w) : Calls Try.prog 24 #[.pointer (some ⟨g, 0, none⟩)] w fun e w' => e = .returned (.int .i64 (q : Int)) ∧ Below w.heap.size w w' := by
  obtain ⟨R, h⟩ := h
  obtain ⟨c0, c1, c2, c3⟩ := h.cells
  have C := Lib.hid (ldi64_any ⟨g, 3, none⟩ q w c3)
  clear h
  go_enter Try.func24, Try.ntmps24
  go_wp2_with fail
  refine C.out.mono ?_
  rintro e w1 ⟨rfl, rfl⟩
  clear C
  go_wp2_with fail
  go_ret
  exact ⟨rfl, Below.refl _ _⟩
theorem lkcnt_nil (w : World) : Calls Try.prog 24 #[.pointer none] w fun e w' => e = .returned (.int .i64 0) ∧ Below w.heap.size w w' := by
  go_enter Try.func24, Try.ntmps24
  go_wp2_with fail
  go_ret
  exact ⟨rfl, Below.refl _ _⟩

theorem infoI14b : (Try.prog.info? 3).map (fun i => (i.zero, i.size, i.bytes)) = some (some (.int .i64 0), 1, 8) := by kernel_rfl
set_option maxRecDepth 100000 in
theorem cloneI_any (A : Option Addr) (c : Nat) (l : List Nat) (hl : l.length ≤ 1000000) (w : World) (hS : SlAt encK 1 w A l) :
    Calls Try.prog 32 #[.slice A l.length c] w fun e w' => ∃ v, e = .returned v ∧ w'.ownsRow w.heap.size 3 1 v l.length (flatL encK l) ∧ Below w.heap.size w w' := by
  obtain ⟨i0, hi, hz0, hz1, hz2⟩ := info_parts infoI14b
  have q22 := fun (w : World) (a : Option Addr) (l c : Nat) => run_eql_slice_nil (P := Try.prog) w 26 3 a l c Try.underlying26
  rcases A with _ | ad
  · obtain rfl : l = [] := by
      rcases hS with h | ⟨b, off, hA, _⟩
      · exact h
      · cases hA
    clear hS hl
    go_enter Try.func32, Try.ntmps32
    go_wp2_with fail
    go_ret
    exact ⟨_, rfl, World.ownsRow_nil _ _ _ _, Below.refl _ _⟩
  · have HS := Lib.hid (hS.below (below_al w (.cells #[] 3)))
    have HOE := Lib.hid (own_empty (sz := 1) (heap_alloc_new w (.cells #[] 3)) (Nat.le_refl _))
    have H63 := Lib.hid (show 0 + l.length ≤ maxLen by unfold maxLen; omega)
    have HBY := Lib.hid (show (0 + l.length) * 8 ≤ 140737488355328 by omega)
    have HB0 := Lib.hid (below_al w (.cells #[] 3))
    have HSZ := Lib.hid HB0.out.size
    clear hS hl
    go_enter Try.func32, Try.ntmps32
    go_wp2_with (at_builtin; refine wpList_append_sl _ rfl _ _ 26 rfl w.heap.size 3 i0 _ 8 Try.underlying26 hi hz0 hz1 hz2 rfl (by decide) _ 0 [] rfl HOE.out (some ad) l c rfl encK_len HS.out (one_flatK l) H63.out HBY.out HSZ.out ?_; intro v2 w2 hown2 hg2)
    rw [Nat.zero_add, List.nil_append] at hown2
    obtain ⟨A2, c2, rfl⟩ := own_any hown2
    have HB2 := Lib.hid (HB0.out.grown hg2 HSZ.out (fun kk hkk => (HOE.out.lt kk hkk).1))
    have HO := Lib.hid hown2
    clear hown2 hg2
    go_wp2_with fail
    go_ret
    exact ⟨_, rfl, HO.out, HB2.out⟩
set_option maxRecDepth 100000 in
theorem lkheld_any (o : Int) (ho : -9223372036854775808 ≤ o ∧ o ≤ 9223372036854775807) (h : LkT g S L q w) :
    Calls Try.prog 20 #[.pointer (some ⟨g, 0, none⟩), .int .i64 o] w fun e w' => ∃ v, e = .returned v ∧ w'.ownsRow w.heap.size 3 1 v (heldL L o).length (flatL encK (heldL L o)) ∧ Below w.heap.size w w' := by
  obtain ⟨R, h⟩ := h
  obtain ⟨c0, c1, c2, c3⟩ := h.cells
  have hl : (Instr.lookup 60 (.map (some R.hb)) (.int .i64 o) false).run Try.prog w = .ok (R.val L o) w := h.lookH ho 0
  obtain ⟨A, c, e, hS, _⟩ := h.sl o
  have hn := heldL_len L o
  have hm := h.len
  have C := Lib.hid (cloneI_any A c (heldL L o) (by omega) w hS)
  rw [e] at hl
  clear h hS e hn hm ho
  generalize heldL L o = l at *
  generalize l.length = n at *
  go_enter Try.func20, Try.ntmps20
  go_wp2_with fail
  refine C.out.mono ?_
  rintro e w1 ⟨v, rfl, h1, h2⟩
  have H1 := Lib.hid h1
  have H2 := Lib.hid h2
  clear h1 h2 C
  go_wp2_with fail
  go_ret
  exact ⟨_, rfl, H1.out, H2.out⟩
set_option maxRecDepth 100000 in
theorem lkheld_nil (o : Int) (w : World) : Calls Try.prog 20 #[.pointer none, .int .i64 o] w fun e w' => ∃ A c, e = .returned (.slice A 0 c) ∧ Below w.heap.size w w' := by
  go_enter Try.func20, Try.ntmps20
  go_wp2_with fail
  go_ret
  exact ⟨_, _, rfl, Below.refl _ _⟩
end
end Go.Proofs.Ytpfplniokjkcbaa
