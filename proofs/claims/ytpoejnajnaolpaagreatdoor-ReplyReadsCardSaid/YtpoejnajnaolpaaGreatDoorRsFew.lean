/- Slices of responses; the reference of layer 9: Few. -/
import Derived.Test.YtpoejnajnaolpaaGreatDoorGb
namespace Go.Proofs.YtpoejnajnaolpaaGreatDoor
open Go.RowKit

/-- A response where it lies. -/
structure RX where
  r : RI
  A : Option Addr
  k : Nat
def encRx (x : RX) : List Value := [.int .i64 x.r.kind, .int .u32 (x.r.n : Int), .string ⟨x.r.tag.toArray⟩, .int .i64 x.r.status, .string ⟨x.r.text.toArray⟩, .int .i64 x.r.items, .int .u8 (x.r.flags : Int), .int .u32 (x.r.uid : Int), .int .u32 (x.r.size : Int), .slice x.A x.r.body.length x.k]
theorem encRx_len (x : RX) : (encRx x).length = 10 := rfl
structure RsAt (w : World) (A : Option Addr) (xs : List RX) : Prop where
  sl : SlAt encRx 10 w A xs
  each : ∀ x ∈ xs, ByAt w.heap.size w x.A x.k x.r.body
theorem RsAt.below {w W : World} {A : Option Addr} {xs : List RX} (h : RsAt w A xs) (hb : Below w.heap.size w W) : RsAt W A xs :=
  ⟨h.sl.below hb, fun x hx => ((h.each x hx).below hb).mono hb.size⟩
theorem RsAt.at {w : World} {A : Option Addr} {xs : List RX} (h : RsAt w A xs) {j : Nat} (hj : j < xs.length) :
    ∃ b off, A = some ⟨b, off, none⟩ ∧ b < w.heap.size ∧ w.cell? ⟨b, off + j * 10, none⟩ = some (.int .i64 xs[j].r.kind) ∧ w.cell? ⟨b, off + j * 10 + 1, none⟩ = some (.int .u32 (xs[j].r.n : Int)) ∧ w.cell? ⟨b, off + j * 10 + 2, none⟩ = some (.string ⟨xs[j].r.tag.toArray⟩) ∧ w.cell? ⟨b, off + j * 10 + 3, none⟩ = some (.int .i64 xs[j].r.status) ∧ w.cell? ⟨b, off + j * 10 + 4, none⟩ = some (.string ⟨xs[j].r.text.toArray⟩) ∧ w.cell? ⟨b, off + j * 10 + 5, none⟩ = some (.int .i64 xs[j].r.items) ∧ w.cell? ⟨b, off + j * 10 + 6, none⟩ = some (.int .u8 (xs[j].r.flags : Int)) ∧ w.cell? ⟨b, off + j * 10 + 7, none⟩ = some (.int .u32 (xs[j].r.uid : Int)) ∧ w.cell? ⟨b, off + j * 10 + 8, none⟩ = some (.int .u32 (xs[j].r.size : Int)) ∧ w.cell? ⟨b, off + j * 10 + 9, none⟩ = some (.slice xs[j].A xs[j].r.body.length xs[j].k) := by
  obtain ⟨b, off, hA, hb, hc⟩ := h.sl.at_ hj
  exact ⟨b, off, hA, hb, hc 0 _ rfl, hc 1 _ rfl, hc 2 _ rfl, hc 3 _ rfl, hc 4 _ rfl, hc 5 _ rfl, hc 6 _ rfl, hc 7 _ rfl, hc 8 _ rfl, hc 9 _ rfl⟩
theorem RsAt.load {w : World} {A : Option Addr} {xs : List RX} (h : RsAt w A xs) {j : Nat} (hj : j < xs.length) {b off : Nat} (hA : A = some ⟨b, off, none⟩) :
    (Instr.loadAt 27 (.pointer (some ⟨b, off + j * 10, none⟩))).run Tryz.prog w = .ok (rsV xs[j].r xs[j].A xs[j].k) w := by
  obtain ⟨b', off', hA', _, c0, c1, c2, c3, c4, c5, c6, c7, c8, c9⟩ := h.at hj
  rw [hA] at hA'
  obtain ⟨rfl, rfl⟩ : b = b' ∧ off = off' := by injection hA' with h; injection h with h1 h2; exact ⟨h1, h2⟩
  exact load10 c0 c1 c2 c3 c4 c5 c6 c7 c8 c9 ⟨_, rfl⟩ ⟨_, rfl⟩ ⟨_, rfl⟩ ⟨_, rfl⟩ ⟨_, rfl⟩ ⟨_, rfl⟩ ⟨_, rfl⟩ ⟨_, rfl⟩ ⟨_, rfl⟩ ⟨_, _, _, rfl⟩
theorem index_rs (b off n c k : Nat) (hk : k < n) (W : World) : (Instr.indexAt 32 (.slice (some ⟨b, off, none⟩) n c) (.int .i64 (k : Int))).run Tryz.prog W = .ok (.pointer (some ⟨b, off + k * 10, none⟩)) W := by
  have hk0 : (0 : Int) ≤ (k : Int) := by omega
  have hk1 : (k : Int) < (n : Int) := by omega
  go_simp
/-- A new row of one response, of two. -/
theorem rsAt_one {w : World} {r : RI} {A : Option Addr} {k : Nat} (hA : ByAt w.heap.size w A k r.body) : RsAt (w.alloc (.cells (encRx ⟨r, A, k⟩).toArray 27)) (some ⟨w.heap.size, 0, none⟩) [⟨r, A, k⟩] := by
  refine ⟨.inr ⟨w.heap.size, 0, rfl, by simp, fun j x hj i v hi => ?_⟩, fun x hx => ?_⟩
  · have hj0 : j = 0 := by have := (List.getElem?_eq_some_iff.1 hj).1; simpa using this
    subst hj0
    obtain rfl : (⟨r, A, k⟩ : RX) = x := by simpa using hj
    rw [show 0 + 0 * 10 + i = i by omega, cell_of_row _ w.heap.size i _ _ _ (heap_alloc_new w _)]
    simpa using hi
  · obtain rfl := List.mem_singleton.1 hx
    exact (hA.below (below_al w _)).here
theorem rsAt_two {w : World} {r r2 : RI} {A A2 : Option Addr} {k k2 : Nat} (hA : ByAt w.heap.size w A k r.body) (hA2 : ByAt w.heap.size w A2 k2 r2.body) : RsAt (w.alloc (.cells (encRx ⟨r, A, k⟩ ++ encRx ⟨r2, A2, k2⟩).toArray 27)) (some ⟨w.heap.size, 0, none⟩) [⟨r, A, k⟩, ⟨r2, A2, k2⟩] := by
  refine ⟨.inr ⟨w.heap.size, 0, rfl, by simp, fun j x hj i v hi => ?_⟩, fun x hx => ?_⟩
  · have hi10 : i < 10 := by have := (List.getElem?_eq_some_iff.1 hi).1; rwa [encRx_len] at this
    have hj2 : j < 2 := by have := (List.getElem?_eq_some_iff.1 hj).1; simpa using this
    rw [Nat.zero_add, cell_of_row _ w.heap.size (j * 10 + i) _ _ _ (heap_alloc_new w _)]
    have hc : j = 0 ∨ j = 1 := by omega
    rcases hc with rfl | rfl
    · obtain rfl : (⟨r, A, k⟩ : RX) = x := by simpa using hj
      rw [Nat.zero_mul, Nat.zero_add, List.getElem?_toArray, List.getElem?_append_left (by rw [encRx_len]; exact hi10)]
      exact hi
    · obtain rfl : (⟨r2, A2, k2⟩ : RX) = x := by simpa using hj
      rw [List.getElem?_toArray, List.getElem?_append_right (by rw [encRx_len]; omega), encRx_len, Nat.one_mul, Nat.add_sub_cancel_left]
      exact hi
  · simp only [List.mem_cons, List.not_mem_nil, or_false] at hx
    rcases hx with rfl | rfl
    · exact (hA.below (below_al w _)).here
    · exact (hA2.below (below_al w _)).here

def fewR (r : RI) : Bool := decide (r.tag.length ≤ 100) && (decide (r.text.length ≤ 300) && decide (r.body.length ≤ 500))
def fewRs (xs : List RX) : Bool := (xs.all fun x => fewR x.r) && decide (xs.length ≤ 60)
theorem few_sm {r : RI} (h : fewR r = true) : RIsm r := by
  unfold fewR at h
  simp only [Bool.and_eq_true, decide_eq_true_eq] at h
  exact ⟨by omega, by omega, by omega⟩
theorem all_snocR {p : RX → Bool} {xs : List RX} {k : Nat} (h : k < xs.length) (ha : (xs.take k).all p = true) (hk : p xs[k] = true) : (xs.take (k + 1)).all p = true := by
  rw [List.take_succ_eq_append_getElem h, List.all_append, ha, List.all_cons, hk]
  rfl

set_option maxRecDepth 100000 in
set_option maxHeartbeats 1000000 in
theorem rfew9_any (xs : List RX) (A : Option Addr) (c n : Nat) (hn : xs.length = n) (hl : n ≤ maxLen) (w : World) (hS : RsAt w A xs) :
    Calls Tryz.prog 16 #[.slice A n c] w fun e w' => e = .returned (.bool (fewRs xs)) ∧ w = w' := by
  unfold maxLen at hl
  have HS := Lib.hid hS
  have HN := Lib.hid hn
  have HF := Lib.hid (show fewRs xs = ((xs.all fun x => fewR x.r) && decide (n ≤ 60)) by unfold fewRs; rw [hn])
  clear hS hn
  go_enter Tryz.func16, Tryz.ntmps16
  go_wp2_with fail
  go_loop [3] (fun i => ∃ k : Nat, k ≤ n ∧ i = .int .i64 (k : Int) ∧ Hid ((xs.take k).all (fun x => fewR x.r) = true)) (fun i => n - (intOf i).toNat)
  case atStart => exact ⟨0, Nat.zero_le _, rfl, Lib.hid rfl⟩
  case round =>
    obtain ⟨k, hk, rfl, hA⟩ := hrel
    by_cases hlt : k < n
    · have hlx : k < xs.length := by rw [HN.out]; exact hlt
      obtain ⟨b, off, rfl, _, c0, c1, c2, c3, c4, c5, c6, c7, c8, c9⟩ := HS.out.at hlx
      have hk0 : (0 : Int) ≤ (k : Int) := by omega
      have hk1 : (k : Int) < (n : Int) := by omega
      have HSN := Lib.hid (fun h => all_snocR (p := fun x => fewR x.r) hlx hA.out h)
      have HNO := Lib.hid (fun (h : fewR xs[k].r = false) => (show (xs.all fun x => fewR x.r) = false by
        rw [List.all_eq_false]
        exact ⟨xs[k], List.getElem_mem hlx, by rw [h]; decide⟩))
      have HQ : Hid (fewR xs[k].r = (decide (xs[k].r.tag.length ≤ 100) && (decide (xs[k].r.text.length ≤ 300) && decide (xs[k].r.body.length ≤ 500)))) := Lib.hid rfl
      have ht : (ByteArray.mk xs[k].r.tag.toArray).size = xs[k].r.tag.length := by simp [ByteArray.size]
      have hx : (ByteArray.mk xs[k].r.text.toArray).size = xs[k].r.text.length := by simp [ByteArray.size]
      generalize fewR xs[k].r = q at *
      generalize ByteArray.mk xs[k].r.tag.toArray = v1 at *
      generalize ByteArray.mk xs[k].r.text.toArray = v2 at *
      generalize xs[k].r.tag.length = l1 at *
      generalize xs[k].r.text.length = l2 at *
      generalize xs[k].r.body.length = l3 at *
      clear c0 c1 c3 c5 c6 c7 c8
      subst ht
      subst hx
      by_cases g1 : 100 < v1.size
      · have HS2 := Lib.hid (HNO.out (by rw [HQ.out, decide_eq_false (by omega)]; rfl))
        clear HSN HNO HQ
        go_wp2_with fail
        go_ret
        exact ⟨ret_bool (by rw [HF.out, HS2.out]; rfl), rfl⟩
      by_cases g2 : 300 < v2.size
      · have HS2 := Lib.hid (HNO.out (by rw [HQ.out, decide_eq_true (by omega), decide_eq_false (by omega)]; rfl))
        clear HSN HNO HQ
        go_wp2_with fail
        go_ret
        exact ⟨ret_bool (by rw [HF.out, HS2.out]; rfl), rfl⟩
      by_cases g3 : 500 < l3
      · have HS2 := Lib.hid (HNO.out (by rw [HQ.out, decide_eq_true (by omega), decide_eq_true (by omega), decide_eq_false (by omega)]; rfl))
        clear HSN HNO HQ
        go_wp2_with fail
        go_ret
        exact ⟨ret_bool (by rw [HF.out, HS2.out]; rfl), rfl⟩
      have HS2 := Lib.hid (HSN.out (by rw [HQ.out, decide_eq_true (by omega), decide_eq_true (by omega), decide_eq_true (by omega)]; rfl))
      clear HSN HNO HQ
      go_wp2_with fail
      go_round
      case rel => exact ⟨k + 1, by omega, by go_num, HS2⟩
      case measure => simp [intOf]; omega
    · obtain rfl : k = n := by omega
      have HAll := Lib.hid (show (xs.all fun x => fewR x.r) = true by have := hA.out; rwa [List.take_of_length_le (by rw [HN.out]; exact Nat.le_refl _)] at this)
      have g : decide ((k : Int) ≤ 60) = decide (k ≤ 60) := by rw [decide_eq_decide]; omega
      generalize decide (k ≤ 60) = d at *
      clear hA
      cases d
      all_goals
        go_wp2_with fail
        go_ret
        exact ⟨ret_bool (by rw [HF.out, HAll.out]; rfl), rfl⟩
end Go.Proofs.YtpoejnajnaolpaaGreatDoor
