/- The reference of layer 12: New. -/
import Derived.Test.YtefodmbaknedkaaSorted12
import Derived.Test.YtefodmbaknedkaaVd
import Derived.Test.YtefodmbaknedkaaVh
import Derived.Test.YtefodmbaknedkaaVa
import Derived.OwnWalk
namespace Go.Proofs.Ytefodmbaknedkaa
open Go.RowKit

variable {A : Option Addr} {c : Nat} {l : List Nat} {w : World}

theorem rnew_any (O : List Nat) (hl : l.length ≤ 1000) (hb : ∀ n ∈ l, n ≤ 4294967295) (hO : IsSet O l) (hS : SlAt encU 1 w A l) :
    Calls Try.prog 11 #[.slice A l.length c] w fun e w' => ∃ v, e = .returned v ∧ w'.ownsRow w.heap.size 35 1 v O.length (flatL encU O) ∧ Below w.heap.size w w' := by
  have SO := Lib.hid (show Calls Try.prog 24 #[.slice A l.length c] w (fun e w' => ∃ v, e = .returned v ∧ w'.ownsRow w.heap.size 35 1 v O.length (flatL encU O) ∧ Below w.heap.size w w') from (sorted_any A c l (by omega) hb w hS).mono (by
    rintro e w' ⟨P, v, he, h1, h2, _, ho, hb⟩
    obtain rfl : P = O := IsSet.det ⟨h1, h2⟩ hO
    exact ⟨v, he, ho, hb⟩))
  clear hS hb hO
  go_enter Try.func11, Try.ntmps11
  go_wp2_with fail
  refine SO.out.mono ?_
  rintro e w1 ⟨v, rfl, ho, hB⟩
  obtain ⟨A', c', rfl⟩ := own_any ho
  have HO := Lib.hid ho
  have HB := Lib.hid hB
  clear SO ho hB
  go_wp2_with fail
  go_ret
  exact ⟨_, rfl, HO.out, HB.out⟩
end Go.Proofs.Ytefodmbaknedkaa

namespace Go.Proofs.Ytefodmbaknedkaa
open Go.RowKit

variable {A : Option Addr} {c : Nat} {l : List Nat} {w : World}

set_option maxRecDepth 100000 in
theorem rpos_any (u : Nat) (hl : l.length ≤ 100000) (ha : l.Pairwise (· < ·)) (hS : SlAt encU 1 w A l) :
    Calls Try.prog 20 #[.slice A l.length c, .int .u32 u] w fun e w' => e = .returned (.int .i64 (posL l u : Nat)) ∧ w = w' := by
  have HS := Lib.hid hS
  have HA := Lib.hid ha
  clear hS ha
  go_enter Try.func20, Try.ntmps20
  go_wp2_with fail
  go_loopw [5] (fun i wr => ∃ k : Nat, k ≤ l.length ∧ i = .int .i64 k ∧ wr = w ∧ Hid (¬ u ∈ l.take k)) (fun i _ => l.length - (intOf i).toNat)
  case atStart => exact ⟨0, Nat.zero_le _, rfl, rfl, (by simp : ¬ u ∈ l.take 0)⟩
  case round =>
    obtain ⟨k, hk, rfl, rfl, hu⟩ := hrel
    by_cases hlt : k < l.length
    · obtain ⟨b, off, rfl, hb, hx⟩ := HS.out.one hlt
      by_cases hxu : l[k] = u
      · have HE := Lib.hid (show posL l u = k + 1 by
          unfold posL
          rw [if_pos (hxu ▸ List.getElem_mem hlt), ← hxu, cnt_at HA.out hlt])
        rw [hxu] at hx
        clear hxu
        go_wp2_with fail
        go_ret
        exact ⟨by rw [HE.out]; go_num, rfl⟩
      · have HN := Lib.hid (show ¬ u ∈ l.take (k + 1) by
          rw [List.take_succ_eq_append_getElem hlt, List.mem_append, List.mem_singleton]
          rintro (h | h)
          · exact hu.out h
          · exact hxu h.symm)
        have hxi : ((l[k] : Int) == (u : Int)) = false := by simp; omega
        clear hu
        generalize l[k] = x at *
        go_wp2_with fail
        go_roundw
        case rel => exact ⟨k + 1, by omega, by go_num, trivial, HN⟩
        case measure => simp [intOf]; omega
    · obtain rfl : k = l.length := by omega
      have HE := Lib.hid (show posL l u = 0 from if_neg (by have := hu.out; rwa [List.take_length] at this))
      clear hu
      go_wp2_with fail
      go_ret
      exact ⟨by rw [HE.out]; rfl, rfl⟩
end Go.Proofs.Ytefodmbaknedkaa

namespace Go.Proofs.Ytefodmbaknedkaa
open Go.RowKit

variable {A : Option Addr} {c : Nat} {l : List Nat} {w : World}
set_option maxRecDepth 100000 in
set_option maxHeartbeats 1000000 in
theorem rremove_any (u : Nat) (hl : l.length ≤ 100000) (hS : SlAt encU 1 w A l) :
    Calls Try.prog 26 #[.slice A l.length c, .int .u32 u] w fun e w' => ∃ v, e = .returned v ∧ w'.ownsRow w.heap.size 35 1 v (remL l u).length (flatL encU (remL l u)) ∧ Below w.heap.size w w' := by
  obtain ⟨i0, hi, hz0, hz1, hz2⟩ := info_parts infoU
  have HS := Lib.hid hS
  clear hS
  go_enter Try.func26, Try.ntmps26
  go_wp2_with fail
  go_loopw [5, 6] (fun v i wr => ∃ k : Nat, k ≤ l.length ∧ i = .int .i64 k ∧ Hid (wr.ownsRow w.heap.size 35 1 v (remL (l.take k) u).length (flatL encU (remL (l.take k) u))) ∧ Hid (Below w.heap.size w wr)) (fun _ i _ => l.length - (intOf i).toNat)
  case atStart => exact ⟨0, Nat.zero_le _, rfl, World.ownsRow_nil _ _ _ _, Below.refl _ _⟩
  case round =>
    obtain ⟨k, hk, rfl, hrow, hB⟩ := hrel
    by_cases hlt : k < l.length
    · obtain ⟨b, off, rfl, hb, hx⟩ := (HS.out.below hB.out).one hlt
      have HT := Lib.hid (rem_take (u := u) hlt)
      have hrl : (remL (l.take k) u).length ≤ k := Nat.le_trans (List.length_filter_le _ _) (List.length_take_le _ _)
      obtain ⟨A', c', rfl⟩ := own_any hrow.out
      by_cases hxu : l[k] = u
      · have HR := Lib.hid (show remL (l.take (k + 1)) u = remL (l.take k) u by rw [HT.out, if_pos hxu])
        rw [hxu] at hx
        clear hxu HT
        go_wp2_with fail
        go_roundw
        case rel => exact ⟨k + 1, by omega, by go_num, by rw [HR.out]; exact hrow, hB⟩
        case measure => simp [intOf]; omega
      · have HR := Lib.hid (show remL (l.take (k + 1)) u = remL (l.take k) u ++ [l[k]] by rw [HT.out, if_neg hxu])
        have hxi : ((l[k] : Int) == (u : Int)) = false := by simp; omega
        clear HT hxu
        generalize l[k] = x at *
        generalize remL (l.take k) u = Q at *
        have hBs := hB.out.size
        have HRW := Lib.hid (hrow.out.alloc (.cells #[.int .u32 (x : Int)] 35))
        go_wp2_with (at_builtin; refine wpList_append_own _ rfl _ _ 22 rfl w.heap.size 35 i0 _ 1 4 Try.underlying22 hi hz0 hz1 hz2 rfl (by decide) _ _ _ rfl HRW.out ⟨wr.heap.size, 0, none⟩ 1 1 [.int .u32 (x : Int)] rfl rfl (cells_new1 rfl _ _) (by intro u hu; simp at hu; subst hu; rfl) (by unfold maxLen; omega) (by omega) (by simp; omega) ?_; intro v' wz hown' hgrow _; obtain ⟨A3, c3, rfl⟩ := own_any hown'; have HB2 := Lib.hid ((hB.out.alloc hBs (.cells #[.int .u32 (x : Int)] 35)).grown hgrow (by simp; omega) (fun k hk => (hrow.out.lt k hk).1)); have HO2 := Lib.hid hown'; clear hown' hgrow)
        go_roundw
        case rel => exact ⟨k + 1, by omega, by go_num, by rw [HR.out, List.length_append, flatL_append]; exact HO2, HB2⟩
        case measure => simp [intOf]; omega
    · obtain rfl : k = l.length := by omega
      rw [List.take_length] at hrow
      go_wp2_with fail
      go_ret
      exact ⟨_, rfl, hrow.out, hB.out⟩
set_option maxRecDepth 100000 in
set_option maxHeartbeats 1000000 in
theorem rappend_yes (u : Nat) (hl : l.length < 100000) (hlast : lastL l < u) (hS : SlAt encU 1 w A l) :
    Calls Try.prog 25 #[.slice A l.length c, .int .u32 u] w fun e w' => ∃ v, e = .returned (.tuple #[v, .bool true]) ∧ w'.ownsRow w.heap.size 35 1 v (l ++ [u]).length (flatL encU (l ++ [u])) ∧ Below w.heap.size w w' := by
  obtain ⟨i0, hi, hz0, hz1, hz2⟩ := info_parts infoU
  have HS := Lib.hid (hS.below (below_al w (.cells #[] 35)))
  have HOE := Lib.hid (own_empty (sz := 1) (heap_alloc_new w (.cells #[] 35)) (Nat.le_refl _))
  have H63 := Lib.hid (show 0 + l.length ≤ maxLen by unfold maxLen; omega)
  have HBY := Lib.hid (show (0 + l.length) * 4 ≤ 140737488355328 by omega)
  have HB0 := Lib.hid (below_al w (.cells #[] 35))
  have HSZ := Lib.hid HB0.out.size
  have hu0 : ((u : Int) == 0) = false := by simp; omega
  have FIN := Lib.hid (fun (v2 : Value) (w2 : World) (hown2 : w2.ownsRow w.heap.size 35 1 v2 (0 + l.length) ([] ++ flatL encU l)) (hg2 : (w.alloc (.cells #[] 35)).grownBy w2 (some w.heap.size)) =>
    show w2.ownsRow w.heap.size 35 1 v2 l.length (flatL encU l) ∧ Below w.heap.size w w2 from ⟨by rw [Nat.zero_add, List.nil_append] at hown2; exact hown2, HB0.out.grown hg2 HSZ.out (fun kk hkk => by injection hkk; omega)⟩)
  rcases Nat.eq_zero_or_pos l.length with h0 | h0
  · have hn0 : ¬ (0 : Int) < (l.length : Int) := by omega
    clear hS hlast h0
    go_enter Try.func25, Try.ntmps25
    go_wp2_with (first
      | (at_builtin; refine wpList_append_sl _ rfl _ _ 22 rfl w.heap.size 35 i0 _ 4 Try.underlying22 hi hz0 hz1 hz2 rfl (by decide) _ 0 [] rfl HOE.out A l c rfl encU_len HS.out (one_flatU l) H63.out HBY.out HSZ.out ?_; intro v2 w2 hown2 hg2; have F2 := Lib.hid (FIN.out v2 w2 hown2 hg2); have hbs := F2.out.2.size; clear hown2 hg2 FIN)
      | (at_builtin; refine wpList_append_own _ rfl _ _ 22 rfl w.heap.size 35 i0 _ 1 4 Try.underlying22 hi hz0 hz1 hz2 rfl (by decide) _ _ _ rfl (F2.out.1.alloc (.cells #[.int .u32 (u : Int)] 35)) ⟨w2.heap.size, 0, none⟩ 1 1 [.int .u32 (u : Int)] rfl rfl (cells_new1 rfl _ _) (by intro u hu; simp at hu; subst hu; rfl) (by unfold maxLen; omega) (by omega) (by simp; omega) ?_; intro v3 w3 hown3 hg3 _; have HB3 := Lib.hid ((F2.out.2.alloc hbs (.cells #[.int .u32 (u : Int)] 35)).grown hg3 (by simp; omega) (fun k hk => (F2.out.1.lt k hk).1)); have HO3 := Lib.hid hown3; clear hown3 hg3))
    go_ret2
    exact ⟨_, rfl, by rw [flatL_append]; exact HO3.out, HB3.out⟩
  · obtain ⟨b, off, rfl, hb, hx⟩ := (hS.below (below_al w (.cells #[] 35))).one (j := l.length - 1) (by omega)
    obtain ⟨b', off', hA', hb', hx'⟩ := hS.one (j := l.length - 1) (by omega)
    obtain ⟨rfl, rfl⟩ : b = b' ∧ off = off' := by
      injection hA' with hA'
      injection hA' with h1 h2
      exact ⟨h1, h2⟩
    clear hx hb hA'
    have hlu : l[l.length - 1] < u := last_get h0 ▸ hlast
    have hn0 : (0 : Int) < (l.length : Int) := by omega
    have hlt : ¬ (u : Int) ≤ (l[l.length - 1] : Int) := by omega
    generalize l[l.length - 1] = y at *
    clear hS hlast
    go_enter Try.func25, Try.ntmps25
    go_wp2_with (first
      | (at_builtin; refine wpList_append_sl _ rfl _ _ 22 rfl w.heap.size 35 i0 _ 4 Try.underlying22 hi hz0 hz1 hz2 rfl (by decide) _ 0 [] rfl HOE.out (some ⟨b, off, none⟩) l c rfl encU_len HS.out (one_flatU l) H63.out HBY.out HSZ.out ?_; intro v2 w2 hown2 hg2; have F2 := Lib.hid (FIN.out v2 w2 hown2 hg2); have hbs := F2.out.2.size; clear hown2 hg2 FIN)
      | (at_builtin; refine wpList_append_own _ rfl _ _ 22 rfl w.heap.size 35 i0 _ 1 4 Try.underlying22 hi hz0 hz1 hz2 rfl (by decide) _ _ _ rfl (F2.out.1.alloc (.cells #[.int .u32 (u : Int)] 35)) ⟨w2.heap.size, 0, none⟩ 1 1 [.int .u32 (u : Int)] rfl rfl (cells_new1 rfl _ _) (by intro u hu; simp at hu; subst hu; rfl) (by unfold maxLen; omega) (by omega) (by simp; omega) ?_; intro v3 w3 hown3 hg3 _; have HB3 := Lib.hid ((F2.out.2.alloc hbs (.cells #[.int .u32 (u : Int)] 35)).grown hg3 (by simp; omega) (fun k hk => (F2.out.1.lt k hk).1)); have HO3 := Lib.hid hown3; clear hown3 hg3))
    go_ret2
    exact ⟨_, rfl, by rw [flatL_append]; exact HO3.out, HB3.out⟩

set_option maxRecDepth 100000 in
theorem rappend_no (u : Nat) (hl : l.length < 100000) (hlast : ¬ lastL l < u) (hS : SlAt encU 1 w A l) :
    Calls Try.prog 25 #[.slice A l.length c, .int .u32 u] w fun e w' => e = .returned (.tuple #[.slice A l.length c, .bool false]) ∧ w = w' := by
  by_cases hu : u = 0
  · subst hu
    go_enter Try.func25, Try.ntmps25
    go_wp2_with fail
    go_ret2
    exact ⟨rfl, rfl⟩
  · have hu0 : ((u : Int) == 0) = false := by simp; omega
    have h0 : 0 < l.length := by
      rcases Nat.eq_zero_or_pos l.length with h0 | h0
      · obtain rfl : l = [] := List.eq_nil_of_length_eq_zero h0
        exact absurd (show lastL [] < u from Nat.pos_of_ne_zero hu) hlast
      · exact h0
    obtain ⟨b, off, rfl, hb, hx⟩ := hS.one (j := l.length - 1) (by omega)
    have hlu : ¬ l[l.length - 1] < u := fun h => hlast ((last_get h0).symm ▸ h)
    have hn0 : (0 : Int) < (l.length : Int) := by omega
    have hlt : (u : Int) ≤ (l[l.length - 1] : Int) := by omega
    generalize l[l.length - 1] = y at *
    clear hS hlast
    go_enter Try.func25, Try.ntmps25
    go_wp2_with fail
    go_ret2
    exact ⟨rfl, rfl⟩
end Go.Proofs.Ytefodmbaknedkaa
