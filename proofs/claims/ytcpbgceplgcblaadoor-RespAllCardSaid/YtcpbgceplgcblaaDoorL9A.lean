/- The law RespAll: the walk. -/
import Derived.Test.YtcpbgceplgcblaaDoorGj
import Derived.Test.YtcpbgceplgcblaaDoorRsAll
import Derived.Test.YtcpbgceplgcblaaDoorConcatB
import Derived.Test.YtcpbgceplgcblaaDoorEqB
import Derived.Deep.Cut
namespace Go.Proofs.YtcpbgceplgcblaaDoor
open Go.RowKit

def offR (A : Option Addr) (c lo : Nat) : Option Addr := if c = lo then A else A.map (·.add (lo * 10))
theorem sizeR (w : World) : (sizeOf (Tryd.prog.elem 28)).run Tryd.prog w = .ok 10 w := by kernel_rfl
theorem undR : Tryd.prog.underlying 28 = some (.slice (Tryd.prog.elem 28)) := by kernel_rfl
theorem sliceR_l (A : Option Addr) (n c lo : Nat) (h1 : lo ≤ n) (W : World) :
    (Instr.slice 28 (.slice A n c) (some (.int .i64 (lo : Int))) none none).run Tryd.prog W = .ok (.slice (offR A c lo) (n - lo) (c - lo)) W := by
  rw [run_slice_l W _ A n c undR .i64 lo (by omega) (by omega), sizeR]
  rfl
theorem sliceR_h (A : Option Addr) (n c hi : Nat) (h1 : hi ≤ c) (W : World) :
    (Instr.slice 28 (.slice A n c) none (some (.int .i64 (hi : Int))) none).run Tryd.prog W = .ok (.slice A hi c) W := by
  rw [run_slice_h W _ A n c undR .i64 hi (by omega) (by omega), sizeR]
  have e : (if c = 0 then A else A.map (·.add (0 * 10))) = A := by
    split
    · rfl
    · rcases A with _ | ⟨b, o, s⟩ <;> simp [Addr.add]
  simp only [Result.andThen, sliced, e, Int.toNat_natCast, Nat.sub_zero]
theorem sliceAtR_eq (x : Value) (lo hi mx : Option Value) (W : World) : (Instr.sliceAt 28 x lo hi mx).run Tryd.prog W = (Instr.slice 28 x lo hi mx).run Tryd.prog W := run_sliceAt_slice W _ _ _ _ _ undR
theorem RsAt.take {w : World} {A : Option Addr} {xs : List RX} (h : RsAt w A xs) (m : Nat) : RsAt w A (xs.take m) := by
  refine ⟨?_, fun x hx => h.each x (List.mem_of_mem_take hx)⟩
  rcases h.sl with rfl | ⟨b, off, rfl, hb, hc⟩
  · exact .inl (by simp)
  · refine .inr ⟨b, off, rfl, hb, fun j x hj i v hi => hc j x ?_ i v hi⟩
    rw [List.getElem?_take] at hj
    split at hj
    · exact hj
    · cases hj
theorem RsAt.drop {w : World} {A : Option Addr} {xs : List RX} {c : Nat} (h : RsAt w A xs) (hc : xs.length ≤ c) (m : Nat) : RsAt w (offR A c m) (xs.drop m) := by
  refine ⟨?_, fun x hx => h.each x (List.mem_of_mem_drop hx)⟩
  by_cases hm : xs.length ≤ m
  · exact .inl (List.drop_eq_nil_of_le hm)
  · rcases h.sl with rfl | ⟨b, off, rfl, hb, hcl⟩
    · exact .inl (by simp)
    · refine .inr ⟨b, off + m * 10, ?_, hb, fun j x hj i v hi => ?_⟩
      · unfold offR
        rw [if_neg (by omega)]
        simp [Addr.add]
      · rw [List.getElem?_drop] at hj
        rw [show off + m * 10 + j * 10 + i = off + (m + j) * 10 + i by omega]
        exact hcl (m + j) x hj i v hi
theorem row2_at {X W : World} {a0 a1 : Value} {T : TypeId} (hb : Below (X.alloc (.cells #[a0, a1] T)).heap.size (X.alloc (.cells #[a0, a1] T)) W) : W.cell? ⟨X.heap.size, 0, none⟩ = some a0 ∧ W.cell? ⟨X.heap.size, 1, none⟩ = some a1 ∧ X.heap.size < W.heap.size := by
  have h0 : X.heap.size < (X.alloc (.cells #[a0, a1] T)).heap.size := by simp
  exact ⟨(hb.cell (p := ⟨X.heap.size, 0, none⟩) h0).trans (cell_of_row _ _ 0 _ _ _ (heap_alloc_new _ _)), (hb.cell (p := ⟨X.heap.size, 1, none⟩) h0).trans (cell_of_row _ _ 1 _ _ _ (heap_alloc_new _ _)), Nat.lt_of_lt_of_le h0 hb.size⟩
theorem ap_of {f : FuncId} {args : Array Value} {xs : List RX} {w W : World} {L : List UInt8} (hL : rsAllF xs = L) (hW : Below w.heap.size w W) (h : Calls Tryd.prog f args W (AllPost xs W)) : Calls Tryd.prog f args W (fun e w' => ∃ A' c', e = .returned (.slice A' L.length c') ∧ ByAt w'.heap.size w' A' c' L ∧ Below W.heap.size W w' ∧ Below w.heap.size w w') := by
  subst hL
  exact h.mono fun e w' ⟨A', c', h1, h2, h3⟩ => ⟨A', c', h1, h2, h3, below_next hW h3⟩

set_option maxRecDepth 100000 in
set_option maxHeartbeats 4000000 in
theorem respAll_few (A : Option Addr) (c n m : Nat) (k8 : Nat) (L L1 L2 : List UInt8) (hmn : m ≤ n) (hnc : n ≤ c) (e1 : IntKind.i64.wrap (k8 : Int) = (k8 : Int)) (e2 : IntKind.i64.wrap ((n : Int) + 1) = (n : Int) + 1) (e3 : (k8 : Int).tmod ((n : Int) + 1) = (m : Int)) (e5 : IntKind.i64.wrap (m : Int) = (m : Int)) (e6 : ¬ ((n : Int) + 1 = 0)) (w : World)
    (HCAT : Hid (L1 ++ L2 = L)) (HLL : Hid (L.length ≤ 10000000 ∧ L1.length ≤ 10000000 ∧ L2.length ≤ 10000000))
    (FW : Hid (Calls Tryd.prog 9 #[.slice A n c] w fun e w' => e = .returned (.bool true) ∧ w = w'))
    (AL : Hid (∀ W, Below w.heap.size w W → Calls Tryd.prog 10 #[] W fun e w' => e = .returned (.bool true) ∧ Below W.heap.size W w' ∧ Below w.heap.size w w'))
    (PA : Hid (∀ W, Below w.heap.size w W → Calls Tryd.prog 16 #[.slice A n c] W (fun e w' => ∃ A' c', e = .returned (.slice A' L.length c') ∧ ByAt w'.heap.size w' A' c' L ∧ Below W.heap.size W w' ∧ Below w.heap.size w w')))
    (PT : Hid (∀ W, Below w.heap.size w W → Calls Tryd.prog 16 #[.slice A m c] W (fun e w' => ∃ A' c', e = .returned (.slice A' L1.length c') ∧ ByAt w'.heap.size w' A' c' L1 ∧ Below W.heap.size W w' ∧ Below w.heap.size w w')))
    (PD : Hid (∀ W, Below w.heap.size w W → Calls Tryd.prog 16 #[.slice (offR A c m) (n - m) (c - m)] W (fun e w' => ∃ A' c', e = .returned (.slice A' L2.length c') ∧ ByAt w'.heap.size w' A' c' L2 ∧ Below W.heap.size W w' ∧ Below w.heap.size w w')))
    (RA : Hid (∀ W, Below w.heap.size w W → Calls Tryd.prog 17 #[.slice A n c] W (fun e w' => ∃ A' c', e = .returned (.slice A' L.length c') ∧ ByAt w'.heap.size w' A' c' L ∧ Below W.heap.size W w' ∧ Below w.heap.size w w'))) :
    Calls Tryd.prog 4 #[.slice A n c, .int .u8 (k8 : Int)] w fun e w' => e = .returned (.bool true) ∧ Below w.heap.size w w' := by
  have CC := Lib.hid (fun (g : Nat) (X : World) (A1 A2 : Option Addr) (c1 c2 : Nat) W (hW : Below w.heap.size w W) (hX : Below (X.alloc (.cells #[.slice A1 L1.length c1, .slice A2 L2.length c2] 24)).heap.size (X.alloc (.cells #[.slice A1 L1.length c1, .slice A2 L2.length c2] 24)) W) (hg : g = X.heap.size) (ha : ByAt W.heap.size W A1 c1 L1) (hb : ByAt W.heap.size W A2 c2 L2) => (concat2_any g A1 A2 c1 c2 L1 L2 HLL.out.2.1 HLL.out.2.2 W (by rw [hg]; exact (row2_at hX).1) (by rw [hg]; exact (row2_at hX).2.1) (by rw [hg]; exact (row2_at hX).2.2) ha hb).mono (fun e w' (h : ∃ A' c', e = .returned (.slice A' (L1 ++ L2).length c') ∧ ByAt w'.heap.size w' A' c' (L1 ++ L2) ∧ Below W.heap.size W w') => (by rw [HCAT.out] at h; obtain ⟨A', c', h1, h2, h3⟩ := h; exact ⟨A', c', h1, h2, h3, below_next hW h3⟩ : ∃ A' c', e = .returned (.slice A' L.length c') ∧ ByAt w'.heap.size w' A' c' L ∧ Below W.heap.size W w' ∧ Below w.heap.size w w')))
  have EQ := Lib.hid (fun (A5 A6 : Option Addr) (c5 c6 : Nat) W (hW : Below w.heap.size w W) (h5 : ByAt W.heap.size W A5 c5 L) (h6 : ByAt W.heap.size W A6 c6 L) => (equalB_any _ _ A5 A6 c5 c6 L.length L.length L L rfl rfl (by have := HLL.out; omega) (by have := HLL.out; omega) W h5 h6).mono (fun e w' (h : e = .returned (.bool (decide (L = L))) ∧ Below W.heap.size W w') => (⟨h.1.trans (by rw [decide_eq_true (rfl : L = L)]), h.2, below_next hW h.2⟩ : e = .returned (.bool true) ∧ Below W.heap.size W w' ∧ Below w.heap.size w w')))
  have sl1 := fun W => sliceR_l A n c m hmn W
  have sl2 := fun W => sliceR_h A n c m (Nat.le_trans hmn hnc) W
  have hse := fun x lo hi mx W => sliceAtR_eq x lo hi mx W
  have hm0 : (0 : Int) ≤ (m : Int) := by omega
  have hm1 : (m : Int) ≤ (n : Int) := by omega
  have hm2 : (m : Int) ≤ (c : Int) := by omega
  clear HCAT HLL
  go_enter Tryd.func4, Tryd.ntmps4
  go_wp2_with fail
  refine FW.out.mono ?_
  rintro e w0 ⟨rfl, hw0⟩
  subst hw0
  clear FW
  go_upto_region 4 with (fail)
  go_region_held3 (fun w' => Below w.heap.size w w')
    ((repeat (first | assumption | exact Below.refl _ _ | refine belDrawN ?_ _ | refine belDraw ?_ | refine belAlloc ?_ _)))
    (first
      | (go_at_call 10; (with_reducible refine (AL.out _ ?_).mono ?_); (focus (repeat (first | assumption | exact Below.refl _ _ | refine belDrawN ?_ _ | refine belDraw ?_ | refine belAlloc ?_ _))); rintro e' w1 ⟨rfl, hb, hbS⟩)
      | (go_at_call 17; (with_reducible refine (RA.out _ ?_).mono ?_); (focus (repeat (first | assumption | exact Below.refl _ _ | refine belDrawN ?_ _ | refine belDraw ?_ | refine belAlloc ?_ _))); rintro e' w1 ⟨A21, c21, rfl, h21, hbR, hbS⟩; (try replace h19 := (h19.below (below_next (by repeat (first | assumption | exact Below.refl _ _ | refine belDrawN ?_ _ | refine belDraw ?_ | refine belAlloc ?_ _)) hbR)).here); (try replace h28 := (h28.below (below_next (by repeat (first | assumption | exact Below.refl _ _ | refine belDrawN ?_ _ | refine belDraw ?_ | refine belAlloc ?_ _)) hbR)).here); (try replace h32 := (h32.below (below_next (by repeat (first | assumption | exact Below.refl _ _ | refine belDrawN ?_ _ | refine belDraw ?_ | refine belAlloc ?_ _)) hbR)).here); (try replace h34 := (h34.below (below_next (by repeat (first | assumption | exact Below.refl _ _ | refine belDrawN ?_ _ | refine belDraw ?_ | refine belAlloc ?_ _)) hbR)).here))
      | (go_at_call 16; (with_reducible refine (PA.out _ ?_).mono ?_); (focus (repeat (first | assumption | exact Below.refl _ _ | refine belDrawN ?_ _ | refine belDraw ?_ | refine belAlloc ?_ _))); rintro e' w1 ⟨A19, c19, rfl, h19, hb, hbS⟩; (try replace h21 := (h21.below (below_next (by repeat (first | assumption | exact Below.refl _ _ | refine belDrawN ?_ _ | refine belDraw ?_ | refine belAlloc ?_ _)) hb)).here))
      | (go_at_call 16; (with_reducible refine (PT.out _ ?_).mono ?_); (focus (repeat (first | assumption | exact Below.refl _ _ | refine belDrawN ?_ _ | refine belDraw ?_ | refine belAlloc ?_ _))); rintro e' w1 ⟨A28, c28, rfl, h28, hb, hbS⟩; (try replace h21 := (h21.below (below_next (by repeat (first | assumption | exact Below.refl _ _ | refine belDrawN ?_ _ | refine belDraw ?_ | refine belAlloc ?_ _)) hb)).here); (try replace h32 := (h32.below (below_next (by repeat (first | assumption | exact Below.refl _ _ | refine belDrawN ?_ _ | refine belDraw ?_ | refine belAlloc ?_ _)) hb)).here))
      | (go_at_call 16; (with_reducible refine (PD.out _ ?_).mono ?_); (focus (repeat (first | assumption | exact Below.refl _ _ | refine belDrawN ?_ _ | refine belDraw ?_ | refine belAlloc ?_ _))); rintro e' w1 ⟨A32, c32, rfl, h32, hb, hbS⟩; (try replace h21 := (h21.below (below_next (by repeat (first | assumption | exact Below.refl _ _ | refine belDrawN ?_ _ | refine belDraw ?_ | refine belAlloc ?_ _)) hb)).here); (try replace h28 := (h28.below (below_next (by repeat (first | assumption | exact Below.refl _ _ | refine belDrawN ?_ _ | refine belDraw ?_ | refine belAlloc ?_ _)) hb)).here))
      | (go_at_call 18; refine (CC.out _ _ _ _ _ _ _ (by repeat (first | assumption | exact Below.refl _ _ | refine belDrawN ?_ _ | refine belDraw ?_ | refine belAlloc ?_ _)) (by (repeat (first | refine belDrawN ?_ _ | refine belDraw ?_ | refine below_next ?_ hbR)); exact Below.refl _ _) (by rfl) (h28.below (by repeat (first | assumption | exact Below.refl _ _ | refine belDrawN ?_ _ | refine belDraw ?_ | refine belAlloc ?_ _))).here (h32.below (by repeat (first | assumption | exact Below.refl _ _ | refine belDrawN ?_ _ | refine belDraw ?_ | refine belAlloc ?_ _))).here).mono ?_; rintro e' w1 ⟨A34, c34, rfl, h34, hb, hbS⟩; (try replace h21 := (h21.below (below_next (by repeat (first | assumption | exact Below.refl _ _ | refine belDrawN ?_ _ | refine belDraw ?_ | refine belAlloc ?_ _)) hb)).here); clear h28 h32)
      | (go_at_call 15; refine (EQ.out _ _ _ _ _ (by repeat (first | assumption | exact Below.refl _ _ | refine belDrawN ?_ _ | refine belDraw ?_ | refine belAlloc ?_ _)) (h34.below (by repeat (first | assumption | exact Below.refl _ _ | refine belDrawN ?_ _ | refine belDraw ?_ | refine belAlloc ?_ _))).here (h21.below (by repeat (first | assumption | exact Below.refl _ _ | refine belDrawN ?_ _ | refine belDraw ?_ | refine belAlloc ?_ _))).here).mono ?_; rintro e' w1 ⟨rfl, hb, hbS⟩)
      | (go_at_call 15; refine (EQ.out _ _ _ _ _ (by repeat (first | assumption | exact Below.refl _ _ | refine belDrawN ?_ _ | refine belDraw ?_ | refine belAlloc ?_ _)) (h19.below (by repeat (first | assumption | exact Below.refl _ _ | refine belDrawN ?_ _ | refine belDraw ?_ | refine belAlloc ?_ _))).here (h21.below (by repeat (first | assumption | exact Below.refl _ _ | refine belDrawN ?_ _ | refine belDraw ?_ | refine belAlloc ?_ _))).here).mono ?_; rintro e' w1 ⟨rfl, hb, hbS⟩; clear h19 h21))
  all_goals
    go_wp2_with fail
    go_ret
    exact ⟨rfl, (by repeat (first | assumption | exact Below.refl _ _ | refine belDrawN ?_ _ | refine belDraw ?_ | refine belAlloc ?_ _))⟩

set_option maxRecDepth 100000 in
set_option maxHeartbeats 1000000 in
theorem respAll_any (A : Option Addr) (c : Nat) (xs : List RX) (hc : xs.length ≤ c) (hm : xs.length ≤ maxLen) (ok : ∀ x ∈ xs, RIok x.r) (k8 : Nat) (hk8 : k8 ≤ 255) (w : World) (henv : Env w) (hS : RsAt w A xs) :
    Calls Tryd.prog 4 #[.slice A xs.length c, .int .u8 (k8 : Int)] w fun e w' => e = .returned (.bool true) ∧ Below w.heap.size w w' := by
  obtain ⟨n, hn⟩ : ∃ n, xs.length = n := ⟨_, rfl⟩
  rw [hn] at hc hm ⊢
  have FW := rfew9_any xs A c n hn hm w hS
  cases hf : fewRs xs with
  | false =>
    rw [hf] at FW
    have FW := Lib.hid FW
    have AL := Lib.hid (fun W (hW : Below w.heap.size w W) => alive9_any W (henv.below hW))
    clear hS henv ok hf hn
    go_enter Tryd.func4, Tryd.ntmps4
    go_wp2_with fail
    refine FW.out.mono ?_
    rintro e w0 ⟨rfl, hw0⟩
    subst hw0
    go_wp2_with fail
    refine (AL.out _ (Below.refl _ _)).mono ?_
    rintro e w2 ⟨rfl, hb⟩
    have HB := Lib.hid hb
    clear hb
    go_wp2_with fail
    go_ret
    exact ⟨rfl, HB.out⟩
  | true =>
    rw [hf] at FW
    unfold fewRs at hf
    simp only [Bool.and_eq_true, decide_eq_true_eq, List.all_eq_true] at hf
    have hsm : ∀ x ∈ xs, RIok x.r ∧ RIsm x.r := fun x hx => ⟨ok x hx, few_sm (hf.1 x hx)⟩
    have h60 : n ≤ 60 := by rw [← hn]; exact hf.2
    obtain ⟨m, hmm⟩ : ∃ m, k8 % (n + 1) = m := ⟨_, rfl⟩
    have hlt : m < n + 1 := by rw [← hmm]; exact Nat.mod_lt _ (by omega)
    have l0 := rsAllF_len hsm
    have l1 := rsAllF_len (xs := xs.take m) (fun x hx => hsm x (List.mem_of_mem_take hx))
    have l2 := rsAllF_len (xs := xs.drop m) (fun x hx => hsm x (List.mem_of_mem_drop hx))
    have t1 : (xs.take m).length = m := by rw [List.length_take, hn]; omega
    have t2 : (xs.drop m).length = n - m := by rw [List.length_drop, hn]
    rw [hn] at l0
    rw [t1] at l1
    rw [t2] at l2
    exact respAll_few A c n m k8 (rsAllF xs) (rsAllF (xs.take m)) (rsAllF (xs.drop m)) (by omega) hc (IntWalk.i64_in _ (by omega)) (IntWalk.i64_in _ (by omega))
      (by rw [Int.tmod_eq_emod_of_nonneg (by omega), ← hmm, Int.natCast_emod, Int.natCast_add]; rfl) (IntWalk.i64_in _ (by omega)) (by omega) w
      (Lib.hid (by rw [← rsAllF_app, List.take_append_drop])) (Lib.hid ⟨by omega, by omega, by omega⟩) (Lib.hid FW)
      (Lib.hid (fun W hW => (alive9_any W (henv.below hW)).mono fun e w' h => ⟨h.1, h.2, below_next hW h.2⟩))
      (Lib.hid (fun W hW => ap_of rfl hW (pall_any xs A c n hn h60 hsm W (henv.below hW) (hS.below hW))))
      (Lib.hid (fun W hW => ap_of rfl hW (pall_any (xs.take m) A c m t1 (by omega) (fun x hx => hsm x (List.mem_of_mem_take hx)) W (henv.below hW) ((hS.below hW).take m))))
      (Lib.hid (fun W hW => ap_of rfl hW (pall_any (xs.drop m) (offR A c m) (c - m) (n - m) t2 (by omega) (fun x hx => hsm x (List.mem_of_mem_drop hx)) W (henv.below hW) ((hS.below hW).drop (by rw [hn]; exact hc) m))))
      (Lib.hid (fun W hW => ap_of rfl hW (rall_any xs A c n hn h60 hsm W (hS.below hW))))
end Go.Proofs.YtcpbgceplgcblaaDoor
