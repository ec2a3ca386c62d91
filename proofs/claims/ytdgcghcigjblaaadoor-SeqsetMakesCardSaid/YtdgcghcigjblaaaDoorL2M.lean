/- The walk of the law SeqsetMakes. -/
import Derived.Test.YtdgcghcigjblaaaDoorAlive2
import Derived.Test.YtdgcghcigjblaaaDoorRef02A
import Derived.Test.YtdgcghcigjblaaaDoorRefOf
import Derived.Test.YtdgcghcigjblaaaDoorMakesMath
import Derived.Test.YtdgcghcigjblaaaDoorSlEqR
import Derived.Deep.QuietTactic
import Derived.BigQuiet
namespace Go.Proofs.YtdgcghcigjblaaaDoor
open Go.RowKit

/-- A small number, in its one cell. -/
def encH (n : Nat) : List Value := [.int .u16 (n : Int)]
theorem SlAt.oneH {w : World} {A : Option Addr} {l : List Nat} (h : SlAt encH 1 w A l) {j : Nat} (hj : j < l.length) :
    ∃ b off, A = some ⟨b, off, none⟩ ∧ b < w.heap.size ∧ w.cell? ⟨b, off + j, none⟩ = some (.int .u16 (l[j] : Int)) := by
  obtain ⟨b, off, hA, hb, hc⟩ := h.at_ hj
  exact ⟨b, off, hA, hb, by simpa using hc 0 _ rfl⟩

theorem cells_new1 {W : World} {b : Nat} (hb : b = W.heap.size) (x : Value) (T : TypeId) : ∀ (j : Nat) (u : Value), [x][j]? = some u → (W.alloc (.cells #[x] T)).cell? ((⟨b, 0, none⟩ : Addr).add j) = some u := by
  subst hb
  intro j u hj
  rw [Addr.add_lit]
  match j, hj with
  | 0, hj => simp at hj; subst hj; simp

def remL (l : List Nat) : List Nat := l.map (· % 1000)
theorem remL_take (l : List Nat) (k : Nat) (h : k < l.length) : remL (l.take (k + 1)) = remL (l.take k) ++ [l[k] % 1000] := by
  unfold remL
  rw [List.take_succ_eq_append_getElem h, List.map_append]
  rfl

theorem numsK_len' (top : Nat) (l : List R) : (numsL top l).length ≤ top := by
  unfold numsL
  refine Nat.le_trans (List.length_filter_le _ _) ?_
  rw [List.length_map, List.length_range]
  exact Nat.le_refl _

set_option maxRecDepth 100000 in
set_option maxHeartbeats 4000000 in
theorem seqsetMakes_any (A : Option Addr) (c : Nat) (l : List Nat) (hl : l.length ≤ maxLen) (hb : ∀ n ∈ l, n ≤ 65535) (w : World) (henv : Env w) (hS : SlAt encH 1 w A l) :
    Calls Tryd.prog 6 #[.slice A l.length c] w fun e w' => e = .returned (.bool true) ∧ Below w.heap.size w w' := by
  have L := fun w1 (hB : Below w.heap.size w w1) => Lib.hid (alive2_any w1 (henv.below hB))
  clear henv
  obtain ⟨i0, hi, hz0, hz1, hz2⟩ := info_parts infoU
  unfold maxLen at hl
  have HBd := Lib.hid hb
  have HS := Lib.hid hS
  clear hb hS
  by_cases h100 : l.length ≤ 100
  · have h100b : ¬ (100 : Int) < (l.length : Int) := by omega
    go_enter Tryd.func6, Tryd.ntmps6
    go_wp2_with fail
    go_loopw [3, 4, 16] (fun v t i wr => ∃ k : Nat, k ≤ l.length ∧ i = .int .i64 k ∧ t = .int .u32 (maxF (l.take k) : Int) ∧ wr.ownsRow w.heap.size 30 1 v (remL (l.take k)).length (flatL encU (remL (l.take k))) ∧ Below w.heap.size w wr)
      (fun _ _ i _ => l.length - (intOf i).toNat)
    case atStart => exact ⟨0, Nat.zero_le _, rfl, rfl, World.ownsRow_nil _ _ _ _, Below.refl _ _⟩
    case round =>
      obtain ⟨k, hk, rfl, rfl, hrow, hB⟩ := hrel
      by_cases hlt : k < l.length
      · obtain ⟨b, off, rfl, hbl, hc0⟩ := (HS.out.below hB).oneH hlt
        have hx := HBd.out l[k] (List.getElem_mem _)
        have HT := Lib.hid (remL_take l k hlt)
        have HX := Lib.hid (maxF_take l k hlt)
        have hrl : (remL (l.take k)).length ≤ k := by unfold remL; rw [List.length_map]; exact List.length_take_le _ _
        have htl := maxF_lt (l.take k)
        generalize l[k] = x at *
        generalize maxF (l.take k) = t at *
        generalize remL (l.take k) = Q at *
        obtain ⟨A', c', rfl⟩ := own_any hrow
        have hBs := hB.size
        go_wp2_with (at_builtin; refine wpList_append_own _ rfl _ _ 37 rfl w.heap.size 30 i0 _ 1 4 Tryd.underlying37 hi hz0 hz1 hz2 rfl (by decide) _ _ _ rfl (hrow.alloc _) ⟨wr.heap.size, 0, none⟩ 1 1 [.int .u32 ((x : Int) % 1000)] rfl rfl (cells_new1 rfl _ _) (by intro u hu; simp at hu; subst hu; rfl) (by unfold maxLen; omega) (by omega) (by simp; omega) ?_; intro v' wz hown' hgrow _)
        have hbz := (hB.alloc hB.size (.cells #[.int .u32 ((x : Int) % 1000)] 30)).grown hgrow (by simp; omega) (fun k hk => (hrow.lt k hk).1)
        have HO := Lib.hid hown'
        have HB := Lib.hid hbz
        clear hown' hgrow hrow hbz hB
        go_wp2_with fail
        go_roundw
        case rel =>
          refine ⟨k + 1, by omega, by go_num, ?_, ?_, HB.out⟩
          · rw [HX.out]
            congr 1
            omega
          · rw [HT.out, List.length_append, flatL_append]
            exact HO.out
        case measure => simp [intOf]; omega
      · obtain rfl : k = l.length := by omega
        rw [List.take_length] at hrow ⊢
        obtain ⟨A', c', rfl⟩ := own_any hrow
        have hXl : (remL l).length ≤ 100 := by unfold remL; rw [List.length_map]; exact h100
        have hXm : ∀ n ∈ remL l, n < 1000 := by
          intro n hn
          obtain ⟨m, _, rfl⟩ := List.mem_map.1 hn
          exact Nat.mod_lt _ (by decide)
        have hmx : ∀ n ∈ remL l, n ≤ maxF l := fun n hn => le_maxF hn
        have hT := maxF_lt l
        have hX1 := SlAt.of_own encU_len hrow
        clear hrow HBd HS
        generalize maxF l = T at *
        generalize remL l = X at *
        have OF := Lib.hid (of_any A' c' X (by omega) (fun n hn => by have := hXm n hn; omega) wr hX1)
        have HX1 := Lib.hid hX1
        have HXm := Lib.hid hXm
        have HMX := Lib.hid hmx
        clear hX1 hXm hmx
        go_wp2_with fail
        refine OF.out.mono ?_
        rintro e w2 ⟨J, vJ, rfl, hJc, hJm, hJl, hJo, hB2⟩
        obtain ⟨AJ, cJ, rfl⟩ := own_any hJo
        have HX2 := Lib.hid (HX1.out.below hB2)
        have HJ2 := Lib.hid (SlAt.of_own encR_len hJo)
        have hBw2 := below_next hB hB2
        have RO := fun W (hW : Below w2.heap.size w2 W) => Lib.hid (show Calls Tryd.prog 21 #[.slice A' X.length c'] W (fun e w' => ∃ A3 c3, e = .returned (.slice A3 J.length c3) ∧ SlAt encR 2 w' A3 J ∧ Below W.heap.size W w') from
          (refOf_any A' c' X (by omega) (fun n hn => by have := HXm.out n hn; omega) W (HX2.out.below hW)).mono (by
            rintro e w' ⟨J2, v, he, hc, hm, _, ho, hb'⟩
            obtain rfl : J2 = J := canon_unique hc hJc fun n => (hm n).trans (hJm n).symm
            obtain ⟨A3, c3, rfl⟩ := own_any ho
            exact ⟨A3, c3, he, SlAt.of_own encR_len ho, hb'⟩))
        have hNl : (numsL T J).length ≤ T := numsK_len' T J
        have SO := fun W (hW : Below w2.heap.size w2 W) => Lib.hid (show Calls Tryd.prog 22 #[.slice A' X.length c'] W (fun e w' => ∃ A3 c3, e = .returned (.slice A3 (numsL T J).length c3) ∧ SlAt encU 1 w' A3 (numsL T J) ∧ Below W.heap.size W w') from
          (sorted_any A' c' X (by omega) (fun n hn => by have := HXm.out n hn; omega) W (HX2.out.below hW)).mono (by
            rintro e w' ⟨O, v, he, hasc, hm, _, ho, hb'⟩
            have hO : numsL T J = O := nums_canon hJc hasc (fun n => (hm n).trans (hJm n).symm) (fun n hn => HMX.out n ((hm n).1 hn).1)
            rw [hO]
            obtain ⟨A3, c3, rfl⟩ := own_any ho
            exact ⟨A3, c3, he, SlAt.of_own encU_len ho, hb'⟩))
        have NN := fun W (hW : Below w2.heap.size w2 W) => Lib.hid (show Calls Tryd.prog 16 #[.int .u32 T, .slice AJ J.length cJ] W (fun e w' => ∃ A' c', e = .returned (.slice A' (numsL T J).length c') ∧ SlAt encU 1 w' A' (numsL T J) ∧ Below W.heap.size W w') from by
          cases hv : vldL T J with
          | true =>
            refine (numbers_ok T (by omega) AJ cJ J (by omega) hv (by omega) W (HJ2.out.below hW)).mono ?_
            rintro e w' ⟨v, he, ho, hb⟩
            obtain ⟨A', c', rfl⟩ := own_any ho
            exact ⟨A', c', he, SlAt.of_own encU_len (by rw [flatU]; exact ho), hb⟩
          | false =>
            rw [numsL_bad hv]
            refine (numbers_bad T AJ cJ J (by omega) hv W (HJ2.out.below hW)).mono ?_
            rintro e w' ⟨he, hb⟩
            exact ⟨none, 0, he, .inl rfl, hb⟩)
        have EU := fun A1 c1 A2 c2 W h1 h2 => Lib.hid (equalU_any A1 A2 c1 c2 (numsL T J) (numsL T J) (by omega) (by omega) W h1 h2)
        have ER := fun A2 c2 W (hW : Below w2.heap.size w2 W) h2 => Lib.hid (equalR_any AJ A2 cJ c2 J J (by omega) (by omega) W (HJ2.out.below hW) h2)
        simp only [decide_true] at EU ER
        have HJc := Lib.hid hJc
        have HL := fun W (hW : Below w2.heap.size w2 W) => L W (below_next hBw2 hW)
        clear OF hJc hJm hJo hB2 hB HX1 HMX HXm HX2 L hNl
        generalize numsL T J = N at *
        go_wp2_with fail
        go_loopw [36] (fun i wr => ∃ k : Nat, k ≤ J.length ∧ i = .int .i64 k ∧ Below w2.heap.size w2 wr) (fun i _ => J.length - (intOf i).toNat)
        case atStart => exact ⟨0, Nat.zero_le _, rfl, Below.refl _ _⟩
        case round =>
          obtain ⟨k, hk, rfl, hB⟩ := hrel
          by_cases hlt : k < J.length
          · obtain ⟨g, off, rfl, hg, hc0, hc1⟩ := (HJ2.out.below hB).pair hlt
            have hok := HJc.out.1 J[k] (List.getElem_mem _)
            rcases Nat.eq_zero_or_pos k with h0 | h0
            · subst h0
              generalize J[0] = r at *
              obtain ⟨lo, hi'⟩ := r
              unfold okR at hok
              dsimp only at hok hc0 hc1
              simp only [Nat.zero_mul, Nat.add_zero] at hc0 hc1
              have h1 : decide (hi' < lo) = false := by simp; omega
              have hf : decide ((0 : Int) < ((0 : Nat) : Int)) = false := rfl
              clear hok
              go_wp2_with fail
              go_quiet (fail)
              go_wp2_with fail
              go_roundw
              case rel => exact ⟨1, by omega, by go_num, belowDrawN (hB.alloc hB.size _) _⟩
              case measure => simp [intOf]; omega
            · obtain ⟨p, rfl⟩ : ∃ p, k = p + 1 := ⟨k - 1, by omega⟩
              have hpl : p < J.length := by omega
              obtain ⟨g', off', hgo, _, _, hp1⟩ := (HJ2.out.below hB).pair hpl
              injection hgo with hgo
              injection hgo with hgo1 hgo2
              subst hgo1
              subst hgo2
              have hadj := List.pairwise_iff_getElem.1 HJc.out.2 p (p + 1) hpl hlt (Nat.lt_succ_self p)
              generalize J[p] = q at *
              generalize J[p + 1] = r at *
              obtain ⟨lo, hi'⟩ := r
              obtain ⟨lq, hq⟩ := q
              unfold okR at hok
              dsimp only at hok hc0 hc1 hp1 hadj
              have h1 : decide (hi' < lo) = false := by simp; omega
              have h2 : decide (lo ≤ hq + 1) = false := by simp; omega
              have h3 : ¬ (lo : Int) ≤ (hq : Int) + 1 := by omega
              have hqb : hq + 1 ≤ 4294967295 := by omega
              clear hok hadj
              have hne := World.new_ne wr _ hp1
              go_wp2_with fail
              go_quiet (fail)
              go_wp2_with fail
              go_roundw
              case rel => exact ⟨p + 1 + 1, by omega, by go_num, belowDrawN (hB.alloc hB.size _) _⟩
              case measure => simp [intOf]; omega
          · obtain rfl : k = J.length := by omega
            clear HJ2 HJc
            go_wp2_with fail
            refine (HL _ hB).out.mono ?_
            rintro e w3 ⟨rfl, h1⟩
            replace hB := below_next hB h1
            clear h1 HL
            go_wp2_with fail
            refine (RO _ hB).out.mono ?_
            rintro e w4 ⟨A3, c3, rfl, hS3, h1⟩
            replace hB := below_next hB h1
            have EQ := ER A3 c3 w4 hB hS3
            clear h1 RO ER hS3
            go_wp2_with fail
            refine EQ.out.mono ?_
            rintro e w5 ⟨rfl, h1⟩
            replace hB := below_next hB h1
            clear h1 EQ
            go_wp2_with fail
            refine (NN _ hB).out.mono ?_
            rintro e w6 ⟨A5, c5, rfl, hS5, h1⟩
            replace hB := below_next hB h1
            have HS5 := Lib.hid hS5
            clear h1 NN hS5
            go_wp2_with fail
            refine (SO _ hB).out.mono ?_
            rintro e w7 ⟨A6, c6, rfl, hS6, h1⟩
            replace hB := below_next hB h1
            have EQ := EU A5 c5 A6 c6 w7 (HS5.out.below h1) hS6
            clear h1 SO EU hS6 HS5
            go_wp2_with fail
            refine EQ.out.mono ?_
            rintro e w8 ⟨rfl, h1⟩
            replace hB := below_next hB h1
            clear h1 EQ
            go_wp2_with fail
            go_ret
            exact ⟨rfl, below_next hBw2 hB⟩
  · have h100b : (100 : Int) < (l.length : Int) := by omega
    go_enter Tryd.func6, Tryd.ntmps6
    go_wp2_with fail
    refine (L _ (Below.refl _ _)).out.mono ?_
    rintro e w1 ⟨rfl, hB⟩
    go_wp2_with fail
    go_ret
    exact ⟨rfl, hB⟩
end Go.Proofs.YtdgcghcigjblaaaDoor
