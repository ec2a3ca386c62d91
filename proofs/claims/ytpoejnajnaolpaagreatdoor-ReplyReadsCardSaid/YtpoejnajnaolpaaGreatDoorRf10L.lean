/- The reference of layer 10: line. -/
import Derived.Test.YtpoejnajnaolpaaGreatDoorRf10
namespace Go.Proofs.YtpoejnajnaolpaaGreatDoor
open Go.RowKit

theorem lineA_go {l : List UInt8} {j : Nat} (h : j < l.length) (hno : ¬ (l[j] = 13 ∧ l[j + 1]? = some 10)) : lineA (l.drop j) = (lineA (l.drop (j + 1))).map (l[j] :: ·) := by
  rw [List.drop_eq_getElem_cons h, lineA, if_neg (by rw [List.head?_drop]; exact hno)]
theorem lineA_yes {l : List UInt8} {j : Nat} (h : j < l.length) (hy : l[j] = 13 ∧ l[j + 1]? = some 10) : lineA (l.drop j) = some [] := by
  rw [List.drop_eq_getElem_cons h, lineA, if_pos (by rw [List.head?_drop]; exact hy)]
theorem lineA_end {l : List UInt8} {j : Nat} (h : l.length ≤ j + 1) : lineA (l.drop j) = none := by
  by_cases h1 : j < l.length
  · rw [lineA_go h1 (fun hh => by rw [List.getElem?_eq_none (by omega)] at hh; cases hh.2), List.drop_eq_nil_of_le (by omega)]
    rfl
  · rw [List.drop_eq_nil_of_le (by omega)]
    rfl
/-- The line that begins at k, j bytes of it looked at. -/
def LnAt (l : List UInt8) (k j : Nat) : Prop := lineA (l.drop k) = (lineA (l.drop j)).map (((l.take j).drop k) ++ ·)
theorem LnAt.start (l : List UInt8) (k : Nat) : LnAt l k k := by
  unfold LnAt
  rw [show (l.take k).drop k = [] from List.drop_eq_nil_of_le (by rw [List.length_take]; omega)]
  simp
theorem LnAt.step {l : List UInt8} {k j : Nat} (h : LnAt l k j) (hkj : k ≤ j) (hj : j < l.length) (hno : ¬ (l[j] = 13 ∧ l[j + 1]? = some 10)) : LnAt l k (j + 1) := by
  unfold LnAt at h ⊢
  rw [h, lineA_go hj hno, Option.map_map]
  congr 1
  funext x
  have e : (l.take (j + 1)).drop k = (l.take j).drop k ++ [l[j]] := by
    rw [List.take_succ_eq_append_getElem hj, List.drop_append_of_le_length (by rw [List.length_take]; omega)]
  rw [e]
  simp
theorem LnAt.yes {l : List UInt8} {k j : Nat} (h : LnAt l k j) (hj : j < l.length) (hy : l[j] = 13 ∧ l[j + 1]? = some 10) : lineT (l.drop k) = (l.take j).drop k := by
  unfold LnAt at h
  unfold lineT
  rw [h, lineA_yes hj hy]
  simp
theorem LnAt.none {l : List UInt8} {k j : Nat} (h : LnAt l k j) (hj : l.length ≤ j + 1) : lineT (l.drop k) = [] := by
  unfold LnAt at h
  unfold lineT
  rw [h, lineA_end hj]
  rfl
theorem eq_int (y x : UInt8) : ((x.toNat : Int) == (y.toNat : Int)) = (x == y) := by
  by_cases h : x = y
  · subst h; simp
  · have h1 : (x == y) = false := by rw [beq_eq_false_iff_ne]; exact h
    rw [h1, beq_eq_false_iff_ne]
    intro e
    exact h (UInt8.toNat_inj.1 (by omega))

set_option maxRecDepth 100000 in
set_option maxHeartbeats 2000000 in
theorem line10_any (B c n k : Nat) (A : Option Addr) (l : List UInt8) (hn : l.length = n) (hk : k ≤ n) (hl : n ≤ 1000000) (w : World) (hA : ByAt B w A c l) :
    Calls Tryz.prog 42 #[.slice A n c, .int .i64 (k : Int)] w fun e w' => (∃ v : Int, e = .returned (.tuple #[.string ⟨(lineT (l.drop k)).toArray⟩, .int .i64 v])) ∧ w = w' := by
  have HA := Lib.hid hA
  have HN := Lib.hid hn
  have hle := hA.le
  rw [hn] at hle
  have hse := fun x lo hi mx W => sliceAt_eq x lo hi mx W
  have HT := Lib.hid (fun (j : Nat) (h : LnAt l k j) => show (∀ hj : j < l.length, l[j] = 13 ∧ l[j + 1]? = some 10 → lineT (l.drop k) = (l.take j).drop k) ∧ (l.length ≤ j + 1 → lineT (l.drop k) = []) from ⟨fun hj hy => h.yes hj hy, fun hj => h.none hj⟩)
  have HS := Lib.hid (LnAt.start l k)
  generalize lineT (l.drop k) = T at *
  clear hn
  go_enter Tryz.func42, Tryz.ntmps42
  go_wp2_with fail
  go_loop [6] (fun i => ∃ j : Nat, k ≤ j ∧ j ≤ n ∧ i = .int .i64 (j : Int) ∧ Hid (LnAt l k j)) (fun i => n - (intOf i).toNat)
  case atStart => exact ⟨k, Nat.le_refl _, hk, rfl, HS⟩
  case round =>
    obtain ⟨j, hkj, hj, rfl, hD⟩ := hrel
    have HY := Lib.hid (HT.out j hD.out)
    by_cases hlt : j + 1 < n
    · have hlx : j < l.length := by rw [HN.out]; omega
      have hly : j + 1 < l.length := by rw [HN.out]; exact hlt
      obtain ⟨b, off, rfl, _, _, hc⟩ := HA.out.cell hlx
      obtain ⟨b', off', hA', _, _, hc'⟩ := HA.out.cell hly
      obtain ⟨rfl, rfl⟩ : b = b' ∧ off = off' := by injection hA' with h; injection h with h1 h2; exact ⟨h1, h2⟩
      rw [show off + (j + 1) = off + j + 1 by omega] at hc'
      have hc'' : w.cell? ⟨b, off + (j + 1), none⟩ = some (.int .u8 (l[j + 1].toNat : Int)) := by rw [show off + (j + 1) = off + j + 1 by omega]; exact hc'
      have d1 : decide ((j : Int) + 1 < (n : Int)) = true := by simp; omega
      have hk0 : (0 : Int) ≤ (j : Int) := by omega
      have hk1 : (j : Int) < (n : Int) := by omega
      have hk2 : (0 : Int) ≤ (j : Int) + 1 := by omega
      have hk3 : (j : Int) + 1 < (n : Int) := by omega
      have HST := Lib.hid (fun hno => hD.out.step hkj hlx hno)
      have h10 : l[j + 1]? = some l[j + 1] := List.getElem?_eq_getElem hly
      have e1 := eq_int 13 l[j]
      have e2 := eq_int 10 l[j + 1]
      cases p1 : (l[j] == 13) with
      | false =>
        have HN2 := Lib.hid (HST.out (fun hh => by rw [beq_eq_false_iff_ne] at p1; exact p1 hh.1))
        rw [p1] at e1
        have e1 : ((l[j].toNat : Int) == 13) = false := e1
        clear p1 HST HY e2 h10 hA'
        generalize l[j].toNat = x at *
        generalize l[j + 1].toNat = y at *
        go_wp2_with fail
        go_round
        case rel => exact ⟨j + 1, by omega, by omega, by go_num, HN2⟩
        case measure => simp [intOf]; omega
      | true =>
        rw [p1] at e1
        have e1 : ((l[j].toNat : Int) == 13) = true := e1
        cases p2 : (l[j + 1] == 10) with
        | false =>
          have HN2 := Lib.hid (HST.out (fun hh => by rw [h10] at hh; rw [beq_eq_false_iff_ne] at p2; exact p2 (Option.some.inj hh.2)))
          rw [p2] at e2
          have e2 : ((l[j + 1].toNat : Int) == 10) = false := e2
          clear p1 p2 HST HY h10 hA'
          generalize l[j].toNat = x at *
          generalize l[j + 1].toNat = y at *
          go_wp2_with fail
          go_round
          case rel => exact ⟨j + 1, by omega, by omega, by go_num, HN2⟩
          case measure => simp [intOf]; omega
        | true =>
          have HX := Lib.hid (HY.out.1 hlx ⟨beq_iff_eq.1 p1, by rw [h10]; rw [beq_iff_eq.1 p2]⟩)
          rw [p2] at e2
          have e2 : ((l[j + 1].toNat : Int) == 10) = true := e2
          have hlh := fun W => slice_lh (some ⟨b, off, none⟩) n c k j hkj (by omega) W
          have hcv := convS B w (offA (some ⟨b, off, none⟩) c k) (c - k) (j - k) ((l.take j).drop k) (HA.out.cut hkj (by omega)) (cut_len (by omega))
          clear p1 p2 HST HY h10 hA' HT
          generalize l[j].toNat = x at *
          generalize l[j + 1].toNat = y at *
          generalize (l.take j).drop k = q at *
          go_wp2_with fail
          refine bodyPost_ret (v := .tuple #[.string ⟨q.toArray⟩, .int .i64 ((j : Int) + 2)]) (by simp [results, Tryz.results42, go_sem]) rfl ⟨⟨_, by rw [HX.out]⟩, rfl⟩
    · have HX := Lib.hid (HY.out.2 (by rw [HN.out]; omega))
      have d1 : decide ((j : Int) + 1 < (n : Int)) = false := by simp; omega
      clear HT HY
      go_wp2_with fail
      refine bodyPost_ret (v := .tuple #[.string ⟨#[]⟩, .int .i64 (-1)]) (by simp [results, Tryz.results42, go_sem]) rfl ⟨⟨_, by rw [HX.out]⟩, rfl⟩
end Go.Proofs.YtpoejnajnaolpaaGreatDoor
