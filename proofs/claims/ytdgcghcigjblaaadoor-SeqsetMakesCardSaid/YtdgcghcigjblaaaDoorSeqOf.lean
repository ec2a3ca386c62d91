/- seqset: Of. -/
import Derived.Test.YtdgcghcigjblaaaDoorSeqNums
namespace Go.Proofs.YtdgcghcigjblaaaDoor
open Go.RowKit

def ptsL (l : List Nat) : List R := (l.filter fun n => decide (0 < n)).map fun n => (n, n)
theorem ptsL_take (l : List Nat) (k : Nat) (h : k < l.length) : ptsL (l.take (k + 1)) = ptsL (l.take k) ++ if 0 < l[k] then [(l[k], l[k])] else [] := by
  unfold ptsL
  rw [List.take_succ_eq_append_getElem h, List.filter_append, List.map_append]
  by_cases h0 : 0 < l[k] <;> simp [h0]
theorem ptsL_len (l : List Nat) (k : Nat) : (ptsL (l.take k)).length ≤ k := by
  unfold ptsL
  rw [List.length_map]
  exact Nat.le_trans (List.length_filter_le _ _) (List.length_take_le _ _)
theorem mem_ptsL (l : List Nat) (n : Nat) : memL (ptsL l) n ↔ n ∈ l ∧ 0 < n := by
  unfold memL ptsL
  simp only [List.mem_map, List.mem_filter, decide_eq_true_eq]
  constructor
  · rintro ⟨_, ⟨m, ⟨h1, h2⟩, rfl⟩, h3, h4⟩
    obtain rfl : m = n := by
      have h3 : m ≤ n := h3
      have h4 : n ≤ m := h4
      omega
    exact ⟨h1, h2⟩
  · rintro ⟨h1, h2⟩
    exact ⟨_, ⟨n, ⟨h1, h2⟩, rfl⟩, Nat.le_refl _, Nat.le_refl _⟩

/-- The cell of a number. -/
theorem SlAt.one {w : World} {A : Option Addr} {l : List Nat} (h : SlAt encU 1 w A l) {j : Nat} (hj : j < l.length) :
    ∃ b off, A = some ⟨b, off, none⟩ ∧ b < w.heap.size ∧ w.cell? ⟨b, off + j, none⟩ = some (.int .u32 (l[j] : Int)) := by
  obtain ⟨b, off, hA, hb, hc⟩ := h.at_ hj
  exact ⟨b, off, hA, hb, by simpa using hc 0 _ rfl⟩

set_option maxRecDepth 100000 in
set_option maxHeartbeats 2000000 in
theorem of_any (A : Option Addr) (c : Nat) (l : List Nat) (hlen : l.length ≤ 1000000000) (hl : ∀ n ∈ l, n ≤ 4294967295) (w : World) (hS : SlAt encU 1 w A l) :
    Calls Tryd.prog 20 #[.slice A l.length c] w fun e w' => ∃ (J : List R) (v : Value), e = .returned v ∧ canon J ∧ (∀ n, memL J n ↔ n ∈ l ∧ 0 < n) ∧ J.length ≤ l.length ∧
      w'.ownsRow w.heap.size 32 2 v J.length (flatL encR J) ∧ Below w.heap.size w w' := by
  obtain ⟨i0, hi, hz0, hz1, hz2⟩ := info_parts infoR
  have P := fun x w1 => Lib.hid (point_any x w1)
  have HL := Lib.hid hl
  clear hl
  go_enter Tryd.func20, Tryd.ntmps20
  go_wp2_with fail
  go_loopw [3, 8] (fun v i wr => ∃ k : Nat, k ≤ l.length ∧ i = .int .i64 k ∧ wr.ownsRow w.heap.size 32 2 v (ptsL (l.take k)).length (flatL encR (ptsL (l.take k))) ∧ Below w.heap.size w wr)
    (fun _ i _ => l.length - (intOf i).toNat)
  case atStart => exact ⟨0, Nat.zero_le _, rfl, World.ownsRow_nil _ _ _ _, Below.refl _ _⟩
  case round =>
    obtain ⟨k, hk, rfl, hrow, hB⟩ := hrel
    have hle := ptsL_len l k
    by_cases hlt : k < l.length
    · obtain ⟨b, off, rfl, hb, hc0⟩ := (hS.below hB).one hlt
      have HT := Lib.hid (ptsL_take l k hlt)
      have HS := Lib.hid hS
      clear hS
      generalize l[k] = x at *
      generalize ptsL (l.take k) = Q at *
      by_cases h0 : 0 < x
      · go_wp2_with fail
        refine (P x _).out.mono ?_
        rintro e w1 ⟨rfl, h1⟩
        have hown1 := own_below hrow h1
        have hB1 := hB.trans (h1.mono hB.size)
        have hs1 := h1.size
        have hBs := hB.size
        clear h1 P
        obtain ⟨A', c', rfl⟩ := own_any hrow
        go_wp2_with (at_builtin; refine wpList_append_own _ rfl _ _ 22 rfl w.heap.size 32 i0 _ 2 8 Tryd.underlying22 hi hz0 hz1 hz2 rfl (by decide) _ _ _ rfl (hown1.alloc _) ⟨w1.heap.size, 0, none⟩ 1 1 [.int .u32 (x : Int), .int .u32 (x : Int)] rfl rfl (cells_new2 rfl _ _ _) (by intro u hu; simp at hu; subst hu; rfl) (by unfold maxLen; omega) (by omega) (by simp; omega) ?_; intro v' wz hown' hgrow _)
        have hbz := (hB1.alloc (by omega) (.cells #[.int .u32 (x : Int), .int .u32 (x : Int)] 32)).grown hgrow (by simp; omega) (fun k hk => (hown1.lt k hk).1)
        have HO' := Lib.hid hown'
        clear hown' hgrow hrow hown1
        go_wp2
        go_roundw
        case rel => exact ⟨k + 1, by omega, by go_num, by rw [HT.out, if_pos h0]; simpa [flatL, encR] using HO'.out, hbz⟩
        case measure => simp [intOf]; omega
      · obtain rfl : x = 0 := by omega
        have HO' := Lib.hid hrow
        clear hrow P
        go_wp2_with fail
        go_roundw
        case rel => exact ⟨k + 1, by omega, by go_num, by rw [HT.out, if_neg h0, List.append_nil]; exact HO'.out, hB⟩
        case measure => simp [intOf]; omega
    · obtain rfl : k = l.length := by omega
      rw [List.take_length] at hrow hle
      obtain ⟨A', c', rfl⟩ := own_any hrow
      have JJ := Lib.hid (join_any A' c' (ptsL l) (by omega) (fun r hr => by
        unfold ptsL at hr
        obtain ⟨m, hm, rfl⟩ := List.mem_map.1 hr
        rw [List.mem_filter] at hm
        have h1 := HL.out m hm.1
        have h2 : 0 < m := by simpa using hm.2
        exact ⟨by omega, Nat.le_refl _, h1⟩) _ hrow)
      have hgl := hrow.lt
      have hBs := hB.size
      clear hrow hS P
      go_wp2_with fail
      refine JJ.out.mono ?_
      rintro e w6 ⟨J, v, rfl, hJc, hJm, hJl, hJo, hJg⟩
      have hB6 := hB.grown hJg hBs (fun k hk => (hgl k hk).1)
      have HJm := Lib.hid (fun n => (hJm n).trans (mem_ptsL l n))
      have HJc := Lib.hid hJc
      have HJo := Lib.hid (own_mono hJo hBs)
      clear JJ hJc hJm hJo hJg hgl
      go_wp2_with fail
      go_ret
      exact ⟨J, _, rfl, HJc.out, HJm.out, by omega, HJo.out, hB6⟩
end Go.Proofs.YtdgcghcigjblaaaDoor
