/- slices.Sort of numbers, its memory: a row of numbers, as the sort's functions leave it; cmp.Less. -/
import Derived.Test.YtefodmbaknedkaaVa
import Derived.Sort.AssemblyPlain
import Derived.Shelf.GgSortFunc.SW
import Derived.BigQuiet
import Derived.Deep.LoopGhost
import Derived.Deep.QuietTactic
import Derived.CellFam
namespace Go.Proofs.Ytefodmbaknedkaa
open Go.RowKit

/-- A number's cell. -/
def encN (n : Nat) : Value := .int .u32 (n : Int)
/-- Less, of numbers. -/
def ltN (x y : Nat) : Bool := decide (x < y)
theorem swoN : Sort.SWO ltN where
  irrefl x := by simp [ltN]
  trans x y z h1 h2 := by simp [ltN] at *; omega
  ntrans x y z h1 h2 := by simp [ltN] at *; omega

/-- From the world w0 on, the row of n numbers in block blk alone was written, and blocks were made: it holds d in the world W. -/
structure Rw (w0 : World) (blk off n : Nat) (d : Array Nat) (W : World) : Prop where
  sw : SW encN w0 blk off d W
  sz : d.size = n
  lt : blk < w0.heap.size
  first : ∃ d0 : Array Nat, d0.size = n ∧ Sort.Holds encN w0 blk off d0

variable {w0 W : World} {blk off n : Nat} {d : Array Nat}
theorem Rw.holds (h : Rw w0 blk off n d W) : Sort.Holds encN W blk off d := by
  obtain ⟨d0, h1, h2⟩ := h.first
  exact h.sw.holds h.lt h2 (by rw [h.sz, h1])
theorem Rw.drewN (h : Rw w0 blk off n d W) (q : Nat) : Rw w0 blk off n d (W.drewN q) := ⟨h.sw.drewN q, h.sz, h.lt, h.first⟩
theorem Rw.alloc (h : Rw w0 blk off n d W) (o : Obj) : Rw w0 blk off n d (W.alloc o) := ⟨h.sw.alloc o, h.sz, h.lt, h.first⟩
theorem Rw.box (h : Rw w0 blk off n d W) (b o : Nat) (v : Value) (hb : w0.heap.size ≤ b) : Rw w0 blk off n d (W.setCell ⟨b, o, none⟩ v) := ⟨h.sw.setCell_new b o v hb, h.sz, h.lt, h.first⟩
theorem Rw.swap (h : Rw w0 blk off n d W) {G : Nat → Nat} (hG : ∀ t, G t = d[t]!) (i j : Nat) (hi : i < n) (hj : j < n) :
    Rw w0 blk off n (Sort.swp d i j) ((W.setCell ⟨blk, off + i, none⟩ (.int .u32 (G j : Int))).setCell ⟨blk, off + j, none⟩ (.int .u32 (G i : Int))) := by
  rw [hG, hG]
  exact ⟨h.sw.swap h.lt i j (by rw [h.sz]; exact hi) (by rw [h.sz]; exact hj), by rw [Sort.size_swp]; exact h.sz, h.lt, h.first⟩
theorem Rw.drew (h : Rw w0 blk off n d W) : Rw w0 blk off n d W.drew := h.drewN 1
/-- Behind the exchange's first store the second place holds something (the two may be one). -/
theorem Rw.mid (h : Rw w0 blk off n d W) (i j : Nat) (hi : i < n) (hj : j < n) (v : Value) : ∃ u, (W.setCell ⟨blk, off + i, none⟩ v).cell? ⟨blk, off + j, none⟩ = some u := by
  by_cases e : i = j
  · subst e
    exact ⟨v, World.cell?_setCell_same _ _ _ (h.holds i (by rw [h.sz]; exact hi)).1⟩
  · exact ⟨_, (World.cell?_setCell_other _ _ _ _ (by intro e'; simp only [Addr.mk.injEq] at e'; omega)).trans (h.holds j (by rw [h.sz]; exact hj)).1⟩
/-- The row's cells, as a family. -/
theorem Rw.fam (h : Rw w0 blk off n d W) : ∃ G : Nat → Nat, (∀ t, G t = d[t]!) ∧ (∀ t, t < n → W.cell? ⟨blk, off + t, none⟩ = some (.int .u32 (G t : Int))) ∧ (∀ t, t < n → W.frozen? ⟨blk, off + t, none⟩ = false) :=
  ⟨fun t => d[t]!, fun _ => rfl, fun t ht => (h.holds t (by rw [h.sz]; exact ht)).1, fun t ht => (h.holds t (by rw [h.sz]; exact ht)).2⟩
theorem Rw.cast (h : Rw w0 blk off n d W) {d' : Array Nat} (e : d = d') : Rw w0 blk off n d' W := e ▸ h

theorem quietS {f : FuncId} {args : Array Value} {w : World} {n : Nat} {v : Value} (h : Calls Try.prog f args (w.drewN n) fun e w' => e = .returned v ∧ w.drewN n = w') :
    Calls Try.prog f args (w.drewN n) fun e w' => e = .returned v ∧ ∃ m, w' = w.drewN m := Calls.quiet_of_same (h.mono fun _ _ ⟨a, b⟩ => ⟨a, b.symm⟩)

theorem isNaN_any (x : Nat) (w : World) :
    Calls Try.prog 66 #[.int .u32 x] w fun e w' => e = .returned (.bool false) ∧ w' = w := by
  go_enter Try.func66, Try.ntmps66
  go_wp2
  go_ret
  exact ⟨by simp, rfl⟩
theorem less_any (x y : Nat) (w : World) :
    Calls Try.prog 56 #[.int .u32 x, .int .u32 y] w fun e w' => e = .returned (.bool (ltN x y)) ∧ w = w' := by
  go_enter Try.func56, Try.ntmps56
  go_wp2_with (go_at_call 66; refine (isNaN_any _ _).mono ?_; rintro e w' ⟨rfl, hw⟩; rw [hw])
  all_goals (go_ret; refine ⟨?_, rfl⟩; simp [ltN])

theorem inner_go {a j : Nat} {d : Array Nat} (hj : a < j) (hl : ltN d[j]! d[j - 1]! = true) : Sort.insInner ltN a j d = Sort.insInner ltN a (j - 1) (Sort.swp d j (j - 1)) := by
  cases j with
  | zero => omega
  | succ j =>
    simp at hl
    rw [Sort.insInner, if_pos (by simp [hl]; omega)]
    rfl
theorem inner_stop {a j : Nat} {d : Array Nat} (h : j ≤ a ∨ ltN d[j]! d[j - 1]! = false) : Sort.insInner ltN a j d = d := by
  cases j with
  | zero => rfl
  | succ j =>
    rw [Sort.insInner, if_neg]
    rcases h with h | h
    · simp; omega
    · simp at h; simp [h]
theorem outer_go {a b i : Nat} {d : Array Nat} (h : i < b) : Sort.insOuter ltN a b i d = Sort.insOuter ltN a b (i + 1) (Sort.insInner ltN a i d) := by rw [Sort.insOuter, if_pos h]
theorem outer_stop {a b i : Nat} {d : Array Nat} (h : ¬ i < b) : Sort.insOuter ltN a b i d = d := by rw [Sort.insOuter, if_neg h]

set_option maxRecDepth 100000 in
set_option maxHeartbeats 2000000 in
theorem insert_any (c a b : Nat) (hab : a ≤ b) (hbn : b ≤ n) (hn : n ≤ 1000000000) (H : Rw w0 blk off n d W) :
    Calls Try.prog 50 #[.slice (some ⟨blk, off, none⟩) n c, .int .i64 a, .int .i64 b] W fun e w' => e = .returned (.tuple #[]) ∧ Rw w0 blk off n (Sort.insertionSort ltN d a b) w' := by
  go_enter Try.func50, Try.ntmps50
  have H := Lib.hid H
  go_wp2_with fail
  go_loopw [6] (fun vi wr => ∃ (i : Nat) (dk : Array Nat), vi = .int .i64 i ∧ a < i ∧ i ≤ b + 1 ∧ Hid (Rw w0 blk off n dk wr) ∧ Hid (Sort.insOuter ltN a b i dk = Sort.insOuter ltN a b (a + 1) d)) (fun vi _ => b - (intOf vi).toNat)
  case atStart => exact ⟨a + 1, d, by go_num, by omega, by omega, H, rfl⟩
  case round =>
    obtain ⟨i, dk, rfl, hai, hib, H1, E1⟩ := hrel
    clear H
    by_cases hlt : i < b
    · go_wp2_with fail
      go_loopw [7] (fun vj wr2 => ∃ (j : Nat) (dj : Array Nat), vj = .int .i64 j ∧ a ≤ j ∧ j ≤ i ∧ Hid (Rw w0 blk off n dj wr2) ∧ Hid (Sort.insInner ltN a j dj = Sort.insInner ltN a i dk)) (fun vj _ => (intOf vj).toNat)
      case atStart => exact ⟨i, dk, rfl, by omega, Nat.le_refl _, H1, rfl⟩
      case round =>
        obtain ⟨j, dj, rfl, haj, hji, H2, E2⟩ := hrel
        clear H1
        obtain ⟨G, hG, hc, hf⟩ := H2.out.fam
        have HG := Lib.hid hG
        clear hG
        have OUT : Hid ((j ≤ a ∨ ltN dj[j]! dj[j - 1]! = false) → ∀ q, ∃ (i' : Nat) (dk' : Array Nat), Value.int .i64 ((i : Int) + 1) = .int .i64 i' ∧ a < i' ∧ i' ≤ b + 1 ∧ Hid (Rw w0 blk off n dk' (wr.drewN q)) ∧ Hid (Sort.insOuter ltN a b i' dk' = Sort.insOuter ltN a b (a + 1) d)) := fun hs q =>
          ⟨i + 1, dj, by go_num, by omega, by omega, H2.out.drewN q, by
            refine Eq.trans ?_ E1.out
            rw [outer_go hlt, ← E2.out, inner_stop hs]⟩
        by_cases hja : a < j
        · have hg1 : decide ((a : Int) < (j : Int)) = true := by simpa using hja
          cases hl : ltN (G j) (G (j - 1))
          · go_wp2_with fail
            go_quiet ((go_at_call 56; refine quietS (less_any _ _ _)))
            go_wp2_with fail
            go_roundw
            case rel => exact OUT.out (Or.inr (by rw [← HG.out, ← HG.out]; exact hl)) _
            case measure => simp [intOf]; omega
          · go_wp2_with fail
            go_quiet ((go_at_call 56; refine quietS (less_any _ _ _)))
            go_wp2_with fail
            go_region
            go_wp2_with fail
            go_roundw
            case rel => exact ⟨j - 1, _, by go_num, by omega, by omega, (H2.out.drewN _).swap HG.out j (j - 1) (by omega) (by omega), by
              refine Eq.trans ?_ E2.out
              rw [inner_go hja (by rw [← HG.out, ← HG.out]; exact hl)]⟩
            case measure => simp [intOf]; omega
        · have hg1 : decide ((a : Int) < (j : Int)) = false := by simpa using hja
          go_wp2_with fail
          go_quiet (fail)
          go_wp2_with fail
          go_roundw
          case rel => exact OUT.out (Or.inl (by omega)) _
          case measure => simp [intOf]; omega
    · go_wp2_with fail
      go_end0
      exact ⟨rfl, H1.out.cast (by unfold Sort.insertionSort; rw [← E1.out, outer_stop hlt])⟩
end Go.Proofs.Ytefodmbaknedkaa
