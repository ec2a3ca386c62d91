/- The walk of the law SeqsetJoins. -/
import Derived.Test.YtdgcghcigjblaaaGreatDoorAlive2
import Derived.Test.YtdgcghcigjblaaaGreatDoorRef02A
import Derived.Test.YtdgcghcigjblaaaGreatDoorFew
import Derived.Test.YtdgcghcigjblaaaGreatDoorSeqHas
import Derived.Test.YtdgcghcigjblaaaGreatDoorConcat
import Derived.Deep.QuietTactic
import Derived.BigQuiet
namespace Go.Proofs.YtdgcghcigjblaaaGreatDoor
open Go.RowKit

theorem vldL_join {top : Nat} {l m : List R} (hl : vldL top l = true) (hm : vldL top m = true) : vldL top (l ++ m) = true := by
  unfold vldL at hl hm ⊢
  simp only [Bool.and_eq_true, List.all_append] at hl hm ⊢
  refine ⟨⟨hl.1.1, ?_⟩, hl.2, hm.2⟩
  have := hl.1.2
  cases l with
  | nil => simp at this
  | cons x l => rfl
theorem hasL_join {top n : Nat} {l m : List R} (hl : vldL top l = true) (hm : vldL top m = true) : hasL top n (l ++ m) = (hasL top n l || hasL top n m) := by
  unfold hasL
  rw [vldL_join hl hm, hl, hm, Bool.true_and, Bool.true_and, Bool.true_and, List.any_append]

theorem below_box (w : World) (o : Obj) (k : Nat) : Below w.heap.size w ((w.alloc o).drewN k) := by
  have h1 := (Below.refl w.heap.size w).alloc (Nat.le_refl _) o
  exact ⟨h1.os, h1.tape, h1.output, h1.size, h1.block⟩
theorem cell_box0 (w : World) (x y : Value) (T : TypeId) : (w.alloc (.cells #[x, y] T)).cell? ⟨w.heap.size, 0, none⟩ = some x := by simp
theorem cell_box1 (w : World) (x y : Value) (T : TypeId) : (w.alloc (.cells #[x, y] T)).cell? ⟨w.heap.size, 1, none⟩ = some y := by simp

set_option maxRecDepth 100000 in
set_option maxHeartbeats 2000000 in
theorem seqsetJoins_any (top : Nat) (_ht : top ≤ 4294967295) (n : Nat) (_hn : n ≤ 4294967295) (A : Option Addr) (c : Nat) (l : List R) (hl : l.length ≤ maxLen) (_hb : ∀ r ∈ l, r.1 ≤ 4294967295 ∧ r.2 ≤ 4294967295)
    (B : Option Addr) (d : Nat) (m : List R) (hm : m.length ≤ maxLen) (_hbm : ∀ r ∈ m, r.1 ≤ 4294967295 ∧ r.2 ≤ 4294967295) (w : World) (henv : Env w) (hS : SlAt encR 2 w A l) (hT : SlAt encR 2 w B m) :
    Calls Tryz.prog 3 #[.agg #[.int .u32 top, .int .u32 n], .slice A l.length c, .slice B m.length d] w fun e w' => e = .returned (.bool true) ∧ Below w.heap.size w w' := by
  have L := fun w1 (hB : Below w.heap.size w w1) => Lib.hid (alive2_any w1 (henv.below hB))
  have FA := fun w1 => Lib.hid (few_any A l.length c hl w1)
  have FB := fun w1 => Lib.hid (few_any B m.length d hm w1)
  clear henv
  by_cases h60 : l.length ≤ 60
  · by_cases k60 : m.length ≤ 60
    · have hln : l.length ≤ 1000000000 := by omega
      have hmn : m.length ≤ 1000000000 := by omega
      have VA := fun w1 (hB : Below w.heap.size w w1) => Lib.hid (refValid_any top A c l hln w1 (hS.below hB))
      have VB := fun w1 (hB : Below w.heap.size w w1) => Lib.hid (refValid_any top B d m hmn w1 (hT.below hB))
      have HA := fun w1 (hB : Below w.heap.size w w1) => Lib.hid (has_any2 top n A c l hln w1 (hS.below hB))
      have HB := fun w1 (hB : Below w.heap.size w w1) => Lib.hid (has_any2 top n B d m hmn w1 (hT.below hB))
      have HC := fun A' c' w1 h => Lib.hid (has_any2 top n A' c' (l ++ m) (by rw [List.length_append]; omega) w1 h)
      have RH := fun w1 (hB : Below w.heap.size w w1) => Lib.hid (refHas_any top n A c l hln w1 (hS.below hB))
      have CC := fun g w1 (hB : Below w.heap.size w w1) h0 h1 hg => Lib.hid (concat_any g A B c d l m (by omega) (by omega) w1 h0 h1 hg (hS.below hB) (hT.below hB))
      have HJ := Lib.hid (fun h1 h2 => hasL_join (top := top) (n := n) (l := l) (m := m) h1 h2)
      rw [decide_eq_true h60] at FA
      rw [decide_eq_true k60] at FB
      clear hS hT hln hmn hl hm _hb _hbm
      cases hva : vldL top l with
      | true =>
        cases hvb : vldL top m with
        | true =>
          have HJ := HJ.out hva hvb
          rw [hva] at VA
          rw [hvb] at VB
          rw [HJ] at HC
          clear HJ hva hvb
          generalize l ++ m = q at *
          generalize hasL top n l = x at *
          generalize hasL top n m = y at *
          cases x with
          | true =>
            cases y
            all_goals
              go_enter Tryz.func3, Tryz.ntmps3
              go_wp2_with fail
              go_quiet (fail)
              have hB := below_box w (.cells #[.int .u32 (top : Int), .int .u32 (n : Int)] 23) nq
              generalize (w.alloc (.cells #[.int .u32 (top : Int), .int .u32 (n : Int)] 23)).drewN nq = w0 at *
              go_wp2_with fail
              refine (FA _).out.mono ?_
              rintro e w1 ⟨rfl, rfl⟩
              go_wp2_with fail
              refine (FB _).out.mono ?_
              rintro e w1 ⟨rfl, rfl⟩
              go_wp2_with fail
              refine (VA _ hB).out.mono ?_
              rintro e w1 ⟨rfl, rfl⟩
              go_wp2_with fail
              refine (VB _ hB).out.mono ?_
              rintro e w1 ⟨rfl, rfl⟩
              go_wp2_with fail
              refine (L _ hB).out.mono ?_
              rintro e w1 ⟨rfl, h1⟩
              replace hB := below_next hB h1
              clear h1
              clear FA FB VA VB L
              go_wp2_with fail
              refine (CC _ _ (hB.alloc hB.size _) (cell_box0 _ _ _ _) (cell_box1 _ _ _ _) (by simp)).out.mono ?_
              rintro e w2 ⟨A', c', rfl, hS2, h2⟩
              have HC := HC A' c' w2 hS2
              replace hB := below_next (hB.alloc hB.size _) h2
              clear h2 hS2 CC
              go_wp2_with fail
              refine (HC).out.mono ?_
              rintro e w1 ⟨rfl, h1⟩
              replace hB := below_next hB h1
              clear h1
              go_wp2_with fail
              refine (HA _ hB).out.mono ?_
              rintro e w1 ⟨rfl, h1⟩
              replace hB := below_next hB h1
              clear h1
              go_wp2_with fail
              refine (HA _ hB).out.mono ?_
              rintro e w1 ⟨rfl, h1⟩
              replace hB := below_next hB h1
              clear h1
              go_wp2_with fail
              refine (RH _ hB).out.mono ?_
              rintro e w1 ⟨rfl, rfl⟩
              clear HA HB HC RH
              go_wp2_with fail
              go_ret
              exact ⟨rfl, hB⟩
          | false =>
            cases y
            all_goals
              go_enter Tryz.func3, Tryz.ntmps3
              go_wp2_with fail
              go_quiet (fail)
              have hB := below_box w (.cells #[.int .u32 (top : Int), .int .u32 (n : Int)] 23) nq
              generalize (w.alloc (.cells #[.int .u32 (top : Int), .int .u32 (n : Int)] 23)).drewN nq = w0 at *
              go_wp2_with fail
              refine (FA _).out.mono ?_
              rintro e w1 ⟨rfl, rfl⟩
              go_wp2_with fail
              refine (FB _).out.mono ?_
              rintro e w1 ⟨rfl, rfl⟩
              go_wp2_with fail
              refine (VA _ hB).out.mono ?_
              rintro e w1 ⟨rfl, rfl⟩
              go_wp2_with fail
              refine (VB _ hB).out.mono ?_
              rintro e w1 ⟨rfl, rfl⟩
              go_wp2_with fail
              refine (L _ hB).out.mono ?_
              rintro e w1 ⟨rfl, h1⟩
              replace hB := below_next hB h1
              clear h1
              clear FA FB VA VB L
              go_wp2_with fail
              refine (CC _ _ (hB.alloc hB.size _) (cell_box0 _ _ _ _) (cell_box1 _ _ _ _) (by simp)).out.mono ?_
              rintro e w2 ⟨A', c', rfl, hS2, h2⟩
              have HC := HC A' c' w2 hS2
              replace hB := below_next (hB.alloc hB.size _) h2
              clear h2 hS2 CC
              go_wp2_with fail
              refine (HC).out.mono ?_
              rintro e w1 ⟨rfl, h1⟩
              replace hB := below_next hB h1
              clear h1
              go_wp2_with fail
              refine (HA _ hB).out.mono ?_
              rintro e w1 ⟨rfl, h1⟩
              replace hB := below_next hB h1
              clear h1
              go_wp2_with fail
              refine (HB _ hB).out.mono ?_
              rintro e w1 ⟨rfl, h1⟩
              replace hB := below_next hB h1
              clear h1
              go_wp2_with fail
              refine (HA _ hB).out.mono ?_
              rintro e w1 ⟨rfl, h1⟩
              replace hB := below_next hB h1
              clear h1
              go_wp2_with fail
              refine (RH _ hB).out.mono ?_
              rintro e w1 ⟨rfl, rfl⟩
              clear HA HB HC RH
              go_wp2_with fail
              go_ret
              exact ⟨rfl, hB⟩
        | false =>
          rw [hvb] at VB
          rw [hva] at VA
          clear HJ hva hvb HA HB HC RH CC
          go_enter Tryz.func3, Tryz.ntmps3
          go_wp2_with fail
          go_quiet (fail)
          have hB := below_box w (.cells #[.int .u32 (top : Int), .int .u32 (n : Int)] 23) nq
          generalize (w.alloc (.cells #[.int .u32 (top : Int), .int .u32 (n : Int)] 23)).drewN nq = w0 at *
          go_wp2_with fail
          refine (FA _).out.mono ?_
          rintro e w1 ⟨rfl, rfl⟩
          go_wp2_with fail
          refine (FB _).out.mono ?_
          rintro e w1 ⟨rfl, rfl⟩
          go_wp2_with fail
          refine (VA _ hB).out.mono ?_
          rintro e w1 ⟨rfl, rfl⟩
          go_wp2_with fail
          refine (VB _ hB).out.mono ?_
          rintro e w1 ⟨rfl, rfl⟩
          go_wp2_with fail
          refine (L _ hB).out.mono ?_
          rintro e w1 ⟨rfl, h1⟩
          replace hB := below_next hB h1
          clear h1
          go_wp2_with fail
          go_ret
          exact ⟨rfl, hB⟩
      | false =>
        rw [hva] at VA
        clear HJ hva HA HB HC RH CC VB
        go_enter Tryz.func3, Tryz.ntmps3
        go_wp2_with fail
        go_quiet (fail)
        have hB := below_box w (.cells #[.int .u32 (top : Int), .int .u32 (n : Int)] 23) nq
        generalize (w.alloc (.cells #[.int .u32 (top : Int), .int .u32 (n : Int)] 23)).drewN nq = w0 at *
        go_wp2_with fail
        refine (FA _).out.mono ?_
        rintro e w1 ⟨rfl, rfl⟩
        go_wp2_with fail
        refine (FB _).out.mono ?_
        rintro e w1 ⟨rfl, rfl⟩
        go_wp2_with fail
        refine (VA _ hB).out.mono ?_
        rintro e w1 ⟨rfl, rfl⟩
        go_wp2_with fail
        refine (L _ hB).out.mono ?_
        rintro e w1 ⟨rfl, h1⟩
        replace hB := below_next hB h1
        clear h1
        go_wp2_with fail
        go_ret
        exact ⟨rfl, hB⟩
    · rw [decide_eq_true h60] at FA
      rw [decide_eq_false k60] at FB
      clear hS hT
      go_enter Tryz.func3, Tryz.ntmps3
      go_wp2_with fail
      go_quiet (fail)
      have hB := below_box w (.cells #[.int .u32 (top : Int), .int .u32 (n : Int)] 23) nq
      generalize (w.alloc (.cells #[.int .u32 (top : Int), .int .u32 (n : Int)] 23)).drewN nq = w0 at *
      go_wp2_with fail
      refine (FA _).out.mono ?_
      rintro e w1 ⟨rfl, rfl⟩
      go_wp2_with fail
      refine (FB _).out.mono ?_
      rintro e w1 ⟨rfl, rfl⟩
      go_wp2_with fail
      refine (L _ hB).out.mono ?_
      rintro e w1 ⟨rfl, h1⟩
      replace hB := below_next hB h1
      clear h1
      go_wp2_with fail
      go_ret
      exact ⟨rfl, hB⟩
  · rw [decide_eq_false h60] at FA
    clear hS hT FB
    go_enter Tryz.func3, Tryz.ntmps3
    go_wp2_with fail
    go_quiet (fail)
    have hB := below_box w (.cells #[.int .u32 (top : Int), .int .u32 (n : Int)] 23) nq
    generalize (w.alloc (.cells #[.int .u32 (top : Int), .int .u32 (n : Int)] 23)).drewN nq = w0 at *
    go_wp2_with fail
    refine (FA _).out.mono ?_
    rintro e w1 ⟨rfl, rfl⟩
    go_wp2_with fail
    refine (L _ hB).out.mono ?_
    rintro e w1 ⟨rfl, h1⟩
    replace hB := below_next hB h1
    clear h1
    go_wp2_with fail
    go_ret
    exact ⟨rfl, hB⟩
end Go.Proofs.YtdgcghcigjblaaaGreatDoor
