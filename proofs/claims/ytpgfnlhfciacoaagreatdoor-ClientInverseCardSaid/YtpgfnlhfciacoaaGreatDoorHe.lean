/- A slice of commands that reads as a list; the reference of layer 8: Few. -/
import Derived.Test.YtpgfnlhfciacoaaGreatDoorGv
namespace Go.Proofs.YtpgfnlhfciacoaaGreatDoor
open Go.RowKit

/-- A command where it lies: its fields, and where its two slices lie. -/
structure CX where
  c : CI
  A1 : Option Addr
  A2 : Option Addr
  k1 : Nat
  k2 : Nat
def encX (x : CX) : List Value := [.string ⟨x.c.tag.toArray⟩, .int .i64 x.c.kind, .string ⟨x.c.mbox.toArray⟩, .slice x.A1 x.c.set.length x.k1, .int .i64 x.c.items, .int .i64 x.c.mode, .bool x.c.silent, .int .u8 x.c.flags, .slice x.A2 x.c.data.length x.k2]
theorem encX_len (x : CX) : (encX x).length = 9 := rfl
structure XsAt (w : World) (A : Option Addr) (xs : List CX) : Prop where
  sl : SlAt encX 9 w A xs
  each : ∀ x ∈ xs, SlAt encR 2 w x.A1 x.c.set ∧ ByAt w.heap.size w x.A2 x.k2 x.c.data
theorem XsAt.below {w W : World} {A : Option Addr} {xs : List CX} (h : XsAt w A xs) (hb : Below w.heap.size w W) : XsAt W A xs :=
  ⟨h.sl.below hb, fun x hx => ⟨(h.each x hx).1.below hb, ((h.each x hx).2.below hb).mono hb.size⟩⟩
theorem XsAt.at {w : World} {A : Option Addr} {xs : List CX} (h : XsAt w A xs) {j : Nat} (hj : j < xs.length) :
    ∃ b off, A = some ⟨b, off, none⟩ ∧ b < w.heap.size ∧
      w.cell? ⟨b, off + j * 9, none⟩ = some (.string ⟨xs[j].c.tag.toArray⟩) ∧ w.cell? ⟨b, off + j * 9 + 1, none⟩ = some (.int .i64 xs[j].c.kind) ∧ w.cell? ⟨b, off + j * 9 + 2, none⟩ = some (.string ⟨xs[j].c.mbox.toArray⟩) ∧
      w.cell? ⟨b, off + j * 9 + 3, none⟩ = some (.slice xs[j].A1 xs[j].c.set.length xs[j].k1) ∧ w.cell? ⟨b, off + j * 9 + 4, none⟩ = some (.int .i64 xs[j].c.items) ∧ w.cell? ⟨b, off + j * 9 + 5, none⟩ = some (.int .i64 xs[j].c.mode) ∧
      w.cell? ⟨b, off + j * 9 + 6, none⟩ = some (.bool xs[j].c.silent) ∧ w.cell? ⟨b, off + j * 9 + 7, none⟩ = some (.int .u8 xs[j].c.flags) ∧ w.cell? ⟨b, off + j * 9 + 8, none⟩ = some (.slice xs[j].A2 xs[j].c.data.length xs[j].k2) := by
  obtain ⟨b, off, hA, hb, hc⟩ := h.sl.at_ hj
  exact ⟨b, off, hA, hb, hc 0 _ rfl, hc 1 _ rfl, hc 2 _ rfl, hc 3 _ rfl, hc 4 _ rfl, hc 5 _ rfl, hc 6 _ rfl, hc 7 _ rfl, hc 8 _ rfl⟩
def fewXs (xs : List CX) : Bool := (xs.all fun x => fewC x.c) && decide (xs.length ≤ 30)
theorem all_snocX {p : CX → Bool} {xs : List CX} {k : Nat} (h : k < xs.length) (ha : (xs.take k).all p = true) (hk : p xs[k] = true) : (xs.take (k + 1)).all p = true := by
  rw [List.take_succ_eq_append_getElem h, List.all_append, ha, List.all_cons, hk]
  rfl

set_option maxRecDepth 100000 in
set_option maxHeartbeats 1000000 in
theorem rfewXs_any (xs : List CX) (A : Option Addr) (c n : Nat) (hn : xs.length = n) (hl : n ≤ maxLen) (w : World) (hS : XsAt w A xs) :
    Calls Tryz.prog 16 #[.slice A n c] w fun e w' => e = .returned (.bool (fewXs xs)) ∧ Below w.heap.size w w' := by
  unfold maxLen at hl
  have HS := Lib.hid hS
  have HN := Lib.hid hn
  have HF := Lib.hid (show fewXs xs = ((xs.all fun x => fewC x.c) && decide (n ≤ 30)) by unfold fewXs; rw [hn])
  clear hS hn
  go_enter Tryz.func16, Tryz.ntmps16
  go_wp2_with fail
  go_loopw [3] (fun i wr => ∃ k : Nat, k ≤ n ∧ i = .int .i64 (k : Int) ∧ Hid ((xs.take k).all (fun x => fewC x.c) = true) ∧ Hid (Below w.heap.size w wr)) (fun i _ => n - (intOf i).toNat)
  case atStart => exact ⟨0, Nat.zero_le _, rfl, Lib.hid rfl, Lib.hid (Below.refl _ _)⟩
  case round =>
    obtain ⟨k, hk, rfl, hA, hB⟩ := hrel
    by_cases hlt : k < n
    · have hlx : k < xs.length := by rw [HN.out]; exact hlt
      obtain ⟨b, off, rfl, _, c0, c1, c2, c3, c4, c5, c6, c7, c8⟩ := (HS.out.below hB.out).at hlx
      have hk0 : (0 : Int) ≤ (k : Int) := by omega
      have hk1 : (k : Int) < (n : Int) := by omega
      have FA := Lib.hid (fun W => few_any xs[k].c xs[k].A1 xs[k].A2 xs[k].k1 xs[k].k2 W)
      have HSN := Lib.hid (fun h => all_snocX (p := fun x => fewC x.c) hlx hA.out h)
      have HNO := Lib.hid (fun (h : fewC xs[k].c = false) => (show (xs.all fun x => fewC x.c) = false by
        rw [List.all_eq_false]
        exact ⟨xs[k], List.getElem_mem hlx, by rw [h]; decide⟩))
      unfold ciV at FA
      generalize fewC xs[k].c = q at *
      generalize xs[k].c.tag = v0 at *
      generalize xs[k].c.kind = v1 at *
      generalize xs[k].c.mbox = v2 at *
      generalize xs[k].A1 = v3 at *
      generalize xs[k].c.set.length = v4 at *
      generalize xs[k].k1 = v5 at *
      generalize xs[k].c.items = v6 at *
      generalize xs[k].c.mode = v7 at *
      generalize xs[k].c.silent = v8 at *
      generalize xs[k].c.flags = v9 at *
      generalize xs[k].A2 = v10 at *
      generalize xs[k].c.data.length = v11 at *
      generalize xs[k].k2 = v12 at *
      go_wp2_with fail
      refine (FA.out _).mono ?_
      rintro e w1 ⟨rfl, hb1⟩
      have HB1 := Lib.hid (below_next hB.out hb1)
      clear c0 c1 c2 c3 c4 c5 c6 c7 c8 hb1 FA
      cases q with
      | true =>
        have HS2 := Lib.hid (HSN.out rfl)
        clear HSN HNO
        go_wp2_with fail
        go_roundw
        case rel => exact ⟨k + 1, by omega, by go_num, HS2, HB1⟩
        case measure => simp [intOf]; omega
      | false =>
        have HS2 := Lib.hid (HNO.out rfl)
        clear HSN HNO
        go_wp2_with fail
        go_ret
        exact ⟨ret_bool (by rw [HF.out, HS2.out]; rfl), HB1.out⟩
    · obtain rfl : k = n := by omega
      have HAll := Lib.hid (show (xs.all fun x => fewC x.c) = true by have := hA.out; rwa [List.take_of_length_le (by rw [HN.out]; exact Nat.le_refl _)] at this)
      have g : decide ((k : Int) ≤ 30) = decide (k ≤ 30) := by rw [decide_eq_decide]; omega
      generalize decide (k ≤ 30) = d at *
      clear hA
      cases d
      all_goals
        go_wp2_with fail
        go_ret
        exact ⟨ret_bool (by rw [HF.out, HAll.out]; rfl), hB.out⟩
end Go.Proofs.YtpgfnlhfciacoaaGreatDoor

namespace Go.Proofs.YtpgfnlhfciacoaaGreatDoor
open Go.ChangeShapes Go.WideShapes Go.ChangeAt Go.WideMaps Go.WideElems Go.RowKit

instance : Inhabited CX := ⟨⟨⟨[], 0, [], [], 0, 0, false, 0, []⟩, none, none, 0, 0⟩⟩
set_option maxRecDepth 100000 in
theorem open_cmds {H : Type} {enc : TypeId × Value → H} {W : World} {base : Nat} {v : Value} {d : DataW H} {p : List MemPlace}
    (hv : Value.okWide Tryz.prog W .any base 33 v) (h : DataW.Trod enc Tryz.prog W 0 (fun _ => true) true 33 v d p) (hlt : ∀ x ∈ p, x.block < W.heap.size) :
    ∃ A c, ∃ xs : List CX, v = .slice A xs.length c ∧ xs.length ≤ c ∧ xs.length ≤ maxLen ∧ (∀ x ∈ xs, CIok x.c) ∧ XsAt W A xs := by
  obtain ⟨a0, len, cap, rfl⟩ := okWide_slice Tryz.underlying33 hv
  obtain ⟨fuel, hf⟩ := h
  have c9 : Tryz.prog.cellsOf 26 = 9 := by kernel_rfl
  rcases Go.Deep.open_slice Tryz.underlying33 hf with ⟨hcs, _⟩ | ⟨a, len', cap', m, n, D, Pl, hcs, _, hlc, hcm, hm, hx, hi⟩
  · simp [Value.cells] at hcs
    obtain ⟨rfl, rfl, rfl⟩ := hcs
    exact ⟨none, 0, [], rfl, Nat.le_refl _, Nat.zero_le _, (fun x hx => by cases hx), ⟨.inl rfl, fun x hx => by cases hx⟩⟩
  · simp [Value.cells] at hcs
    obtain ⟨rfl, rfl, rfl⟩ := hcs
    simp only [if_true] at hm
    subst hm
    simp only [Prod.mk.injEq] at hx
    rw [c9] at hx
    have each : ∀ i, i < len → ∃ x : CX, (∀ j u, (encX x)[j]? = some u → W.cell? (a.add (i * 9 + j)) = some u) ∧ CIok x.c ∧ SlAt encR 2 W x.A1 x.c.set ∧ ByAt W.heap.size W x.A2 x.k2 x.c.data := by
      intro i hil
      obtain ⟨cs', h1, h2⟩ := hi i (by omega)
      rw [c9] at h1
      obtain ⟨_, hlen, hcell⟩ := World.cells?_some h1
      obtain ⟨b, A1, A2, k1, k2, hcs, hb1, hb2, hb3⟩ := cmd_cells h2 (fun y hy => hlt y (by
        rw [hx.2]
        exact List.mem_append_right _ (List.mem_flatMap.2 ⟨i, List.mem_range.2 (by omega), hy⟩)))
      refine ⟨⟨b, A1, A2, k1, k2⟩, fun j u hj => ?_, hb1, hb2, hb3⟩
      have hj9 : j < 9 := (List.getElem?_eq_some_iff.1 hj).1
      have := hcell j (by omega)
      rw [hcs] at this
      rw [Go.Deep.add_add] at this
      rw [this]
      exact hj
    obtain ⟨f, hf⟩ := Go.Deep.choose_lt each
    have hll : ((List.range len).map f).length = len := by rw [List.length_map, List.length_range]
    refine ⟨some a, _, (List.range len).map f, by rw [hll], by rw [hll]; exact hlc, by rw [hll]; exact Nat.le_trans hlc hcm, fun x hx => ?_, ?_, fun x hx => ?_⟩
    · obtain ⟨i, hi', rfl⟩ := List.mem_map.1 hx
      exact (hf i (List.mem_range.1 hi')).2.1
    · by_cases h0 : len = 0
      · exact .inl (by simp [h0])
      · obtain ⟨b, off, spot⟩ := a
        have hspot : spot = none := by simpa [Addr.add] using World.cell?_spot ((hf 0 (by omega)).1 0 _ rfl)
        subst hspot
        have hb : b < W.heap.size := hlt (.cell b off) (by
          rw [hx.2]
          exact List.mem_append_left _ (MemPlace.mem_row.2 ⟨0, by omega, by simp⟩))
        refine .inr ⟨b, off, rfl, hb, fun j x hj i v hi' => ?_⟩
        have hjl : j < len := by
          have := (List.getElem?_eq_some_iff.1 hj).1
          simpa using this
        have hxj : x = f j := by
          rw [List.getElem?_map, List.getElem?_range hjl] at hj
          simpa using hj.symm
        rw [hxj] at hi'
        have := (hf j hjl).1 i v hi'
        rw [add_plain] at this
        rw [Nat.add_assoc]
        exact this
    · obtain ⟨i, hi', rfl⟩ := List.mem_map.1 hx
      exact (hf i (List.mem_range.1 hi')).2.2
end Go.Proofs.YtpgfnlhfciacoaaGreatDoor
