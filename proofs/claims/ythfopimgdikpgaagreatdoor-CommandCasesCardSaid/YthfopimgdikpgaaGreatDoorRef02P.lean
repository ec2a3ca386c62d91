/- The reference of layer 2: split, number, Parse. -/
import Derived.Test.YthfopimgdikpgaaGreatDoorGb
import Derived.Test.YthfopimgdikpgaaGreatDoorGs
import Derived.Test.YthfopimgdikpgaaGreatDoorPsrW
import Derived.LoopNIn
namespace Go.Proofs.YthfopimgdikpgaaGreatDoor
open Go.RowKit

/-- Where 'split' stands: the parts pre are cut, the next begins at f, byte k is looked at. -/
def SpAt7 (c : UInt8) (l : List UInt8) (pre : List (List UInt8)) (f k : Nat) : Prop :=
  (f ≤ k ∧ k ≤ l.length ∧ (∀ j, f ≤ j → j < k → l[j]? ≠ some c) ∧ pre ++ splitL c (l.drop f) = splitL c l) ∨ (k = l.length + 1 ∧ pre = splitL c l)
def seg7 (l : List UInt8) (f k : Nat) : List UInt8 := (l.drop f).take (k - f)
theorem spAt7_skip {c : UInt8} {l : List UInt8} {pre : List (List UInt8)} {f k : Nat} (h : SpAt7 c l pre f k) (hk : k < l.length) (hc : l[k]? ≠ some c) : SpAt7 c l pre f (k + 1) := by
  rcases h with h | h
  · refine .inl ⟨by omega, by omega, fun j h1 h2 => ?_, h.2.2.2⟩
    by_cases e : j = k
    · subst e; exact hc
    · exact h.2.2.1 j h1 (by omega)
  · omega
theorem seg7_no {c : UInt8} {l : List UInt8} {f k : Nat} (h : ∀ j, f ≤ j → j < k → l[j]? ≠ some c) : c ∉ seg7 l f k := by
  intro hm
  obtain ⟨i, hi⟩ := List.getElem?_of_mem hm
  unfold seg7 at hi
  have hlt := (List.getElem?_eq_some_iff.1 hi).1
  rw [List.length_take] at hlt
  rw [List.getElem?_take_of_lt (by omega), List.getElem?_drop] at hi
  exact h (f + i) (by omega) (by omega) hi
theorem spAt7_cut {c : UInt8} {l : List UInt8} {pre : List (List UInt8)} {f k : Nat} (h : SpAt7 c l pre f k) (hk : k < l.length) (hc : l[k]? = some c) : SpAt7 c l (pre ++ [seg7 l f k]) (k + 1) (k + 1) := by
  rcases h with ⟨h1, h2, h3, h4⟩ | h
  · refine .inl ⟨Nat.le_refl _, by omega, fun j hj1 hj2 => by omega, ?_⟩
    have hs : l.drop f = seg7 l f k ++ c :: l.drop (k + 1) := by
      unfold seg7
      conv => lhs; rw [← List.take_append_drop (k - f) (l.drop f)]
      congr 1
      rw [List.drop_drop, show f + (k - f) = k by omega, List.drop_eq_getElem_cons hk]
      have := (List.getElem?_eq_some_iff.1 hc).2
      rw [this]
    rw [List.append_assoc, ← h4, hs, splitL_at (seg7_no h3)]
    rfl
  · omega
theorem spAt7_end {c : UInt8} {l : List UInt8} {pre : List (List UInt8)} {f : Nat} (h : SpAt7 c l pre f l.length) : SpAt7 c l (pre ++ [seg7 l f l.length]) (l.length + 1) (l.length + 1) := by
  rcases h with ⟨h1, h2, h3, h4⟩ | h
  · refine .inr ⟨rfl, ?_⟩
    have hs : l.drop f = seg7 l f l.length := by
      unfold seg7
      rw [List.take_of_length_le (by rw [List.length_drop]; exact Nat.le_refl _)]
    rw [← h4, hs, splitL_none (seg7_no h3)]
  · omega
theorem spAt7_len {c : UInt8} {l : List UInt8} {pre : List (List UInt8)} {f k : Nat} (h : SpAt7 c l pre f k) : f ≤ l.length + 1 ∨ k = l.length + 1 := by
  rcases h with h | h
  · exact .inl (by omega)
  · exact .inr h.1

theorem split7_len (c : UInt8) : ∀ l, (splitL c l).length ≤ l.length + 1
  | [] => by simp [splitL]
  | b :: l => by
    have ih := split7_len c l
    unfold splitL
    split
    · simp; omega
    · split
      · simp
      · rename_i h
        rw [h] at ih
        simp only [List.length_cons] at ih ⊢
        omega

set_option maxRecDepth 100000 in
set_option maxHeartbeats 2000000 in
theorem split2_any (l : List UInt8) (c : UInt8) (hl : l.length ≤ 1000000) (w : World) :
    Calls Tryz.prog 70 #[.string ⟨l.toArray⟩, .int .u8 (c.toNat : Int)] w fun e w' => ∃ v, e = .returned v ∧ w'.ownsRow w.heap.size 9 1 v (splitL c l).length (flatL encS (splitL c l)) ∧ Below w.heap.size w w' := by
  obtain ⟨i0, hi, hz0, hz1, hz2⟩ := info_parts infoS
  have hsz : (ByteArray.mk l.toArray).size = l.length := by show l.toArray.size = _; simp
  have cut := fun (f k : Nat) (h1 : f ≤ k) (h2 : k ≤ l.length) W => run_slice_string (P := Tryz.prog) (w := W) 9 ⟨l.toArray⟩ .i64 .i64 (f : Int) (k : Int) Tryz.underlying9 (by omega) (by omega) (by rw [hsz]; omega)
  have CUT := Lib.hid cut
  have HLEN := Lib.hid (split7_len c l)
  obtain ⟨n, hn⟩ : ∃ n, l.length = n := ⟨_, rfl⟩
  have HN := Lib.hid hn
  have hn1 : n ≤ 1000000 := by omega
  clear cut hsz hl
  obtain ⟨S, hS⟩ : ∃ S, splitL c l = S := ⟨_, rfl⟩
  have HS := Lib.hid hS
  rw [hS]
  clear hS
  go_enter Tryz.func70, Tryz.ntmps70
  go_wp2_with fail
  go_loopw [5, 6, 7] (fun v f i wr => ∃ (k g : Nat) (pre : List (List UInt8)), k ≤ n + 1 ∧ i = .int .i64 (k : Int) ∧ f = .int .i64 (g : Int) ∧ g ≤ n + 1 ∧ pre.length ≤ k ∧ Hid (SpAt7 c l pre g k) ∧ Hid (wr.ownsRow w.heap.size 9 1 v pre.length (flatL encS pre)) ∧ Hid (Below w.heap.size w wr)) (fun _ _ i _ => n + 2 - (intOf i).toNat)
  case atStart => exact ⟨0, 0, [], by omega, rfl, rfl, by omega, Nat.le_refl _, Lib.hid (.inl ⟨Nat.le_refl _, by omega, fun j h1 h2 => by omega, rfl⟩), Lib.hid (World.ownsRow_nil _ _ _ _), Lib.hid (Below.refl _ _)⟩
  case round =>
    obtain ⟨k, g, pre, hk, rfl, rfl, hg, hpk, hP, hO, hB⟩ := hrel
    by_cases hend : k = n + 1
    · subst hend
      have HE : Hid (pre = S) := Lib.hid (by
        rcases hP.out with h | h
        · have := HN.out; omega
        · rw [h.2, HS.out])
      have d1 : decide (((n + 1 : Nat) : Int) ≤ (n : Int)) = false := by simp; omega
      have d2 : decide (n + 1 ≤ n) = false := by simp
      go_wp2_with fail
      go_ret
      exact ⟨_, rfl, by rw [← HE.out]; exact hO.out, hB.out⟩
    · have hkn : k ≤ n := by omega
      have hgk : g ≤ k := by
        rcases hP.out with h | h
        · exact h.1
        · have := HN.out; omega
      have cu := CUT.out g k hgk (by rw [hn]; exact hkn)
      have hzx : ((ByteArray.mk l.toArray).extract g k) = ⟨(seg7 l g k).toArray⟩ := by
        unfold seg7
        apply ByteArray.ext
        rw [ByteArray.data_extract]
        apply Array.toList_inj.1
        simp [List.extract]
      have hws := hB.out.size
      have how := fun g2 e => (hO.out.lt g2 e).1
      by_cases hlast : k = n
      · subst hlast
        have HP2 := Lib.hid (show SpAt7 c l (pre ++ [seg7 l g k]) (k + 1) (k + 1) by have := spAt7_end (by rw [HN.out]; exact hP.out); rwa [HN.out] at this)
        simp only [Int.toNat_natCast, hzx] at cu
        have HO2 := Lib.hid (hO.out.alloc (.cells #[.string ⟨(seg7 l g k).toArray⟩] 9))
        have HB2 := Lib.hid (hB.out.alloc hws (.cells #[.string ⟨(seg7 l g k).toArray⟩] 9))
        clear hP hO hzx hend
        generalize seg7 l g k = sg at *
        have e1 : ((k : Int) == (k : Int)) = true := by simp
        go_wp2_with (at_builtin; refine wpList_append_sl _ rfl (.tmp 25) (.tmp 30) 59 rfl w.heap.size 9 i0 _ 16 Tryz.underlying59 hi hz0 hz1 hz2 rfl (by decide) _ pre.length (flatL encS pre) rfl HO2.out _ [sg] 1 rfl encS_len (slAt_oneStr _ _ _) (one_flatS _) (by simp only [List.length_singleton, maxLen]; omega) (by simp only [List.length_singleton]; omega) (by rw [World.size_alloc]; omega) ?_; intro v9 w9 hv9 hg9)
        have R2 : Hid (w9.ownsRow w.heap.size 9 1 v9 (pre ++ [sg]).length (flatL encS (pre ++ [sg]))) := Lib.hid (by rw [List.length_append, flatL_append]; exact hv9)
        have R3 := Lib.hid (HB2.out.grown hg9 (by rw [World.size_alloc]; omega) (fun j hj => how j hj))
        clear hv9 hg9 HO2 HB2 hB
        go_wp2_with fail
        go_roundw
        case rel => exact ⟨k + 1, k + 1, pre ++ [sg], by omega, by go_num, by go_num, by omega, by simp; omega, HP2, R2, R3⟩
        case measure => simp [intOf]
      · have hlt : k < l.length := by rw [HN.out]; omega
        have hne : ¬ (k : Int) = (n : Int) := by omega
        have hix : l[k]? = some l[k] := List.getElem?_eq_getElem hlt
        have hbx : (ByteArray.mk l.toArray)[k]'(by show k < l.toArray.size; simpa using hlt) = l[k] := by simp [ByteArray.getElem_eq_getElem_data]
        have hk2 : k < (ByteArray.mk l.toArray).size := by show k < l.toArray.size; simpa using hlt
        by_cases he : l[k] = c
        · have HP2 := Lib.hid (spAt7_cut hP.out hlt (hix.trans (congrArg some he)))
          simp only [Int.toNat_natCast, hzx] at cu
          have HO2 := Lib.hid (hO.out.alloc (.cells #[.string ⟨(seg7 l g k).toArray⟩] 9))
          have HB2 := Lib.hid (hB.out.alloc hws (.cells #[.string ⟨(seg7 l g k).toArray⟩] 9))
          have f1 : ((l[k].toNat : Int) == (c.toNat : Int)) = true := by rw [he]; simp
          have f2 : (l[k].toNat : Int) = (c.toNat : Int) := by rw [he]
          clear hP hO hzx hend he hix
          generalize seg7 l g k = sg at *
          go_wp2_with (at_builtin; refine wpList_append_sl _ rfl (.tmp 25) (.tmp 30) 59 rfl w.heap.size 9 i0 _ 16 Tryz.underlying59 hi hz0 hz1 hz2 rfl (by decide) _ pre.length (flatL encS pre) rfl HO2.out _ [sg] 1 rfl encS_len (slAt_oneStr _ _ _) (one_flatS _) (by simp only [List.length_singleton, maxLen]; omega) (by simp only [List.length_singleton]; omega) (by rw [World.size_alloc]; omega) ?_; intro v9 w9 hv9 hg9)
          have R2 : Hid (w9.ownsRow w.heap.size 9 1 v9 (pre ++ [sg]).length (flatL encS (pre ++ [sg]))) := Lib.hid (by rw [List.length_append, flatL_append]; exact hv9)
          have R3 := Lib.hid (HB2.out.grown hg9 (by rw [World.size_alloc]; omega) (fun j hj => how j hj))
          clear hv9 hg9 HO2 HB2 hB
          go_wp2_with fail
          go_roundw
          case rel => exact ⟨k + 1, k + 1, pre ++ [sg], by omega, by go_num, by go_num, by omega, by simp; omega, HP2, R2, R3⟩
          case measure => simp [intOf]; omega
        · have HP2 := Lib.hid (spAt7_skip hP.out hlt (by rw [hix]; intro e; injection e with e; exact he e))
          have hx2 : ¬ (l[k].toNat : Int) = (c.toNat : Int) := fun e => he (UInt8.toNat_inj.1 (by omega))
          have f1 : ((l[k].toNat : Int) == (c.toNat : Int)) = false := by simpa using hx2
          clear hP hzx hend he hix cu
          go_wp2_with fail
          go_roundw
          case rel => exact ⟨k + 1, g, pre, by omega, by go_num, rfl, hg, by omega, HP2, hO, hB⟩
          case measure => simp [intOf]; omega

set_option maxRecDepth 100000 in
set_option maxHeartbeats 1000000 in
theorem number2_any (l : List UInt8) (hl : l.length ≤ 1000000000) (w : World) :
    Calls Tryz.prog 71 #[.string ⟨l.toArray⟩] w fun e w' => e = .returned (.tuple #[.int .u32 ((numP l).1 : Nat), .bool (numP l).2]) ∧ w = w' := by
  have RN := refNumber_any ⟨l.toArray⟩ (by show l.toArray.size ≤ _; simpa using hl) w
  have e0 : (ByteArray.mk l.toArray).data.toList = l := rfl
  rw [e0] at RN
  have RN := Lib.hid RN
  unfold numP
  by_cases h : l = [42]
  · subst h
    rw [if_pos rfl]
    clear RN e0
    go_enter Tryz.func71, Tryz.ntmps71
    go_wp2_with fail
    exact bodyPost_ret (v := .tuple #[.int .u32 0, .bool true]) (by simp [results, Tryz.results71, go_sem]) rfl ⟨rfl, rfl⟩
  · rw [if_neg h]
    have hb : (l == [42]) = false := by simpa using h
    clear h e0
    generalize (numOf l).getD 0 = n at *
    generalize (numOf l).isSome = b at *
    have g1 : decide ((0 : Int) < (n : Int)) = decide (0 < n) := by rw [decide_eq_decide]; omega
    cases b with
    | false =>
      go_enter Tryz.func71, Tryz.ntmps71
      go_wp2_with fail
      refine RN.out.mono ?_
      rintro e w1 ⟨rfl, rfl⟩
      go_wp2_with fail
      exact bodyPost_ret (v := .tuple #[.int .u32 (n : Int), .bool false]) (by simp [results, Tryz.results71, go_sem]) rfl ⟨rfl, rfl⟩
    | true =>
      generalize g3 : decide (0 < n) = q at *
      go_enter Tryz.func71, Tryz.ntmps71
      go_wp2_with fail
      refine RN.out.mono ?_
      rintro e w1 ⟨rfl, rfl⟩
      go_wp2_with fail
      exact bodyPost_ret (v := .tuple #[.int .u32 (n : Int), .bool q]) (by simp [results, Tryz.results71, go_sem]) rfl ⟨rfl, rfl⟩

/-! The form of a range, by its parts. -/

theorem numP_no58 {l : List UInt8} (h : (numP l).2 = true) : (58 : UInt8) ∉ l := by
  unfold numP at h
  split at h
  · rename_i e; subst e; decide
  · rw [Bool.and_eq_true] at h
    intro hm
    have : l.all isDig = false := by
      rw [List.all_eq_false]
      exact ⟨58, hm, by decide⟩
    rw [numOf_nodig this] at h
    simp at h
theorem splitL_two {c : UInt8} {a b : List UInt8} (ha : c ∉ a) (hb : c ∉ b) : splitL c (a ++ c :: b) = [a, b] := by rw [splitL_at ha, splitL_none hb]
/-- One part: no ':'; two: one; more: no form. -/
theorem rng_parts (l : List UInt8) :
    (∃ a, splitL 58 l = [a] ∧ rngP l = (((numP a).1, (numP a).1), (numP a).2)) ∨ (∃ a b, splitL 58 l = [a, b] ∧ rngP l = (((numP a).1, (numP b).1), (numP a).2 && (numP b).2)) ∨ (2 < (splitL 58 l).length ∧ (rngP l).2 = false) := by
  by_cases hneg : Lib.indexByte l 58 < 0
  · obtain ⟨_, hn⟩ := index_neg hneg
    exact .inl ⟨l, splitL_none hn, by unfold rngP; rw [if_pos hneg]⟩
  · obtain ⟨o, ho, hlt, hno, hl⟩ := index_nat hneg
    have hr : rngP l = (((numP (l.take o)).1, (numP (l.drop (o + 1))).1), (numP (l.take o)).2 && (numP (l.drop (o + 1))).2) := by
      unfold rngP
      rw [if_neg hneg, ho, Int.toNat_natCast]
    by_cases hb : (58 : UInt8) ∈ l.drop (o + 1)
    · refine .inr (.inr ⟨?_, ?_⟩)
      · rw [hl, splitL_at hno]
        have h1 := splitL_ne 58 (l.drop (o + 1))
        have : 2 ≤ (splitL 58 (l.drop (o + 1))).length := by
          have hneg2 : ¬ Lib.indexByte (l.drop (o + 1)) 58 < 0 := fun h => (index_neg h).2 hb
          obtain ⟨o2, _, _, hno2, hl2⟩ := index_nat hneg2
          rw [hl2, splitL_at hno2, List.length_cons]
          have := List.length_pos_iff.2 (splitL_ne 58 ((l.drop (o + 1)).drop (o2 + 1)))
          omega
        rw [List.length_cons]; omega
      · rw [hr]
        have : (numP (l.drop (o + 1))).2 = false := by
          cases h : (numP (l.drop (o + 1))).2 with
          | false => rfl
          | true => exact absurd hb (numP_no58 h)
        simp [this]
    · exact .inr (.inl ⟨l.take o, l.drop (o + 1), by conv => lhs; rw [hl]
                                                     exact splitL_two hno hb, hr⟩)

theorem slAt_oneR (w : World) (r : R) (T : TypeId) : SlAt encR 2 (w.alloc (.cells #[.int .u32 (r.1 : Int), .int .u32 (r.2 : Int)] T)) (some ⟨w.heap.size, 0, none⟩) [r] := by
  refine .inr ⟨w.heap.size, 0, rfl, by simp, fun j y hj i u hi => ?_⟩
  have hj0 : j = 0 := by
    have := (List.getElem?_eq_some_iff.1 hj).1
    simpa using this
  subst hj0
  obtain rfl : r = y := by simpa using hj
  rw [Joins.cell_alloc_mark_at w _ _ _ _ _ rfl]
  match i, hi with
  | 0, hi => simpa [encR] using hi
  | 1, hi => simpa [encR] using hi
theorem one_flatR (l : List R) : ∀ u ∈ flatL encR l, u.oneCell' = true := by
  induction l with
  | nil => intro u hu; simp [flatL] at hu
  | cons t l ih =>
    intro u hu
    have e : flatL encR (t :: l) = encR t ++ flatL encR l := rfl
    rw [e] at hu
    rcases List.mem_append.1 hu with h | h
    · exact encR_one t u h
    · exact ih u h
/-- A cell of a row of strings. -/
theorem str_at {w : World} {base : Nat} {v : Value} {l : List (List UInt8)} (h : w.ownsRow base 9 1 v l.length (flatL encS l)) (hpos : 0 < l.length) : ∃ g cap, v = .slice (some ⟨g, 0, none⟩) l.length cap ∧ g < w.heap.size ∧ l.length ≤ cap ∧ ∀ j (hj : j < l.length), w.cell? ⟨g, j, none⟩ = some (.string ⟨l[j].toArray⟩) := by
  rcases h.2 with ⟨rfl, h0⟩ | ⟨g, cap, cur, rfl, h1, h2, h3, h4, h5, h6⟩
  · omega
  · refine ⟨g, cap, rfl, (Array.getElem?_eq_some_iff.1 h2).1, by first | exact h3 | exact h5 | omega, fun j hj => ?_⟩
    have h7 : (flatL encS l)[j]? = some (.string ⟨l[j].toArray⟩) := by
      have := flatL_at encS_len l j _ (List.getElem?_eq_getElem hj) 0 (.string ⟨l[j].toArray⟩) (by simp [encS])
      simpa using this
    have := h.cells (g := g) rfl j _ h7
    rwa [Addr.add_lit, Nat.zero_add] at this

theorem seg_lens (c : UInt8) : ∀ (l : List UInt8), ∀ p ∈ splitL c l, p.length ≤ l.length
  | [] => by simp [splitL]
  | b :: l => by
    intro p hp
    have ih := seg_lens c l
    unfold splitL at hp
    split at hp
    · rcases List.mem_cons.1 hp with rfl | h
      · simp
      · have := ih p h; simp; omega
    · split at hp
      · obtain rfl := List.mem_singleton.1 hp; simp
      · rename_i q qs hq
        rcases List.mem_cons.1 hp with rfl | h
        · have := ih q (by rw [hq]; simp); simp; omega
        · have := ih p (by rw [hq]; simp [h]); simp; omega

set_option maxRecDepth 100000 in
set_option maxHeartbeats 4000000 in
theorem refParse2_any (l : List UInt8) (hl : l.length ≤ 100000) (w : World) :
    Calls Tryz.prog 50 #[.string ⟨l.toArray⟩] w fun e w' => ∃ v, e = .returned (.tuple #[v, .bool (parseP l).2]) ∧ w'.ownsRow w.heap.size 47 2 v (parseP l).1.length (flatL encR (parseP l).1) ∧ Below w.heap.size w w' := by
  obtain ⟨i0, hi, hz0, hz1, hz2⟩ := info_parts infoR
  have SP := Lib.hid (split2_any l 44 (by omega) w)
  have hslen := split7_len 44 l
  have SLN := Lib.hid (seg_lens 44 l)
  obtain ⟨pp, hpp⟩ : ∃ pp, parseP l = pp := ⟨_, rfl⟩
  rw [hpp]
  have HPP := Lib.hid hpp
  clear hpp
  unfold parseP at HPP
  have hpos : 0 < (splitL 44 l).length := List.length_pos_iff.2 (splitL_ne 44 l)
  generalize splitL 44 l = ps at *
  go_enter Tryz.func50, Tryz.ntmps50
  go_wp2_with fail
  refine SP.out.mono ?_
  rintro e w1 ⟨v, rfl, hO, hB0⟩
  obtain ⟨g, cap, rfl, hg, hcap, hc⟩ := str_at hO hpos
  have HC := Lib.hid hc
  have HB0 := Lib.hid hB0
  have hw1 := hB0.size
  obtain ⟨n, hn⟩ : ∃ n, ps.length = n := ⟨_, rfl⟩
  have HN := Lib.hid hn
  rw [hn] at hslen hcap hpos ⊢
  clear hc hB0 hO SP hn
  go_wp2_with fail
  go_loopw [4, 6] (fun v i wr => ∃ k : Nat, k ≤ n ∧ i = .int .i64 (k : Int) ∧ Hid ((ps.take k).all (fun p => (rngP p).2) = true) ∧ Hid (wr.ownsRow w1.heap.size 47 2 v ((ps.take k).map fun p => (rngP p).1).length (flatL encR ((ps.take k).map fun p => (rngP p).1))) ∧ Hid (Below w1.heap.size w1 wr)) (fun _ i _ => n - (intOf i).toNat)
  case atStart => exact ⟨0, Nat.zero_le _, rfl, Lib.hid (by simp), Lib.hid (World.ownsRow_nil _ _ _ _), Lib.hid (Below.refl _ _)⟩
  case round =>
    obtain ⟨k, hk, rfl, hA, hR, hB⟩ := hrel
    by_cases hlt : k < n
    · have hkl : k < ps.length := by rw [HN.out]; exact hlt
      have ck := (hB.out.cell (p := ⟨g, k, none⟩) hg).trans (HC.out k hkl)
      have hpl := SLN.out _ (List.getElem_mem hkl)
      have htk : ps.take (k + 1) = ps.take k ++ [ps[k]] := List.take_succ_eq_append_getElem hkl
      have HA2 : Hid ((rngP ps[k]).2 = true → (ps.take (k + 1)).all (fun p => (rngP p).2) = true) := Lib.hid (fun h => by rw [htk, List.all_append, hA.out]; simp [h])
      have HBAD : Hid ((rngP ps[k]).2 = false → pp = ([], false)) := Lib.hid (fun h => by
        rw [← HPP.out, if_neg]
        intro ha
        have := List.all_eq_true.1 ha _ (List.getElem_mem hkl)
        rw [h] at this
        cases this)
      have HM : Hid ((ps.take (k + 1)).map (fun p => (rngP p).1) = (ps.take k).map (fun p => (rngP p).1) ++ [(rngP ps[k]).1]) := Lib.hid (by rw [htk, List.map_append]; rfl)
      have hml : ((ps.take k).map fun p => (rngP p).1).length ≤ k := by simp; omega
      have hpt := rng_parts ps[k]
      have S2 := split2_any ps[k] 58 (by omega) wr
      have SL2 := Lib.hid (seg_lens 58 ps[k])
      have NU := Lib.hid (fun x (hx : x.length ≤ 100000) W => number2_any x (by omega) W)
      have how := fun g2 e => (hR.out.lt g2 e).1
      have hwr := hB.out.size
      generalize (ps.take k).map (fun p => (rngP p).1) = acc at *
      generalize hrp : rngP ps[k] = rp at *
      clear hrp htk hA
      generalize ps[k] = x at *
      rcases hpt with ⟨a, hs, hra⟩ | ⟨a, b, hs, hrb⟩ | ⟨h3, hf⟩
      · rw [hs] at S2
        have hal : a.length ≤ 100000 := by have := SL2.out a (by rw [hs]; simp); omega
        have S2 := Lib.hid S2
        have NA := Lib.hid (fun W => NU.out a hal W)
        subst hra
        clear hs hal NU SL2
        generalize (numP a).1 = na at *
        generalize (numP a).2 = ba at *
        go_wp2_with fail
        refine S2.out.mono ?_
        rintro e w2 ⟨v2, rfl, hO2, hb2⟩
        obtain ⟨g2, cap2, rfl, hg2, hcap2, hc2⟩ := str_at hO2 (by simp)
        have cc0 := hc2 0 (by simp)
        have cc0 : w2.cell? ⟨g2, 0, none⟩ = some (.string ⟨a.toArray⟩) := cc0
        have HB2 := Lib.hid (hB.out.trans (hb2.mono hwr))
        have HR2 := Lib.hid (own_below hR.out hb2)
        clear hO2 hb2 hc2 hB hR S2
        cases ba with
        | false =>
          have HP := Lib.hid (HBAD.out rfl)
          go_wp2_with fail
          refine (NA.out _).mono ?_
          rintro e w3 ⟨rfl, rfl⟩
          go_wp2_with fail
          refine (NA.out _).mono ?_
          rintro e w3 ⟨rfl, rfl⟩
          go_wp2_with fail
          refine bodyPost_ret (v := .tuple #[.slice none 0 0, .bool false]) (by simp [results, Tryz.results50, go_sem]) rfl ⟨_, by rw [HP.out], by rw [HP.out]; exact World.ownsRow_nil _ _ _ _, HB0.out.trans (HB2.out.mono hw1)⟩
        | true =>
          have hw2 := HB2.out.size
          have HO3 := Lib.hid (HR2.out.alloc (.cells #[.int .u32 (na : Int), .int .u32 (na : Int)] 47))
          have HB3 := Lib.hid (HB2.out.alloc hw2 (.cells #[.int .u32 (na : Int), .int .u32 (na : Int)] 47))
          go_wp2_with fail
          refine (NA.out _).mono ?_
          rintro e w3 ⟨rfl, rfl⟩
          go_wp2_with fail
          refine (NA.out _).mono ?_
          rintro e w3 ⟨rfl, rfl⟩
          go_wp2_with (at_builtin; refine wpList_append_sl _ rfl (.tmp 51) (.tmp 55) 24 rfl w1.heap.size 47 i0 _ 8 Tryz.underlying24 hi hz0 hz1 hz2 rfl (by decide) _ acc.length (flatL encR acc) rfl HO3.out _ [(na, na)] 1 rfl encR_len (slAt_oneR _ (na, na) _) (one_flatR _) (by simp only [List.length_singleton, maxLen]; omega) (by simp only [List.length_singleton]; omega) (by rw [World.size_alloc]; omega) ?_; intro v9 w9 hv9 hg9)
          have R2 : Hid (w9.ownsRow w1.heap.size 47 2 v9 ((ps.take (k + 1)).map fun p => (rngP p).1).length (flatL encR ((ps.take (k + 1)).map fun p => (rngP p).1))) := Lib.hid (by rw [HM.out, List.length_append, flatL_append]; exact hv9)
          have R3 := Lib.hid (HB3.out.grown hg9 (by rw [World.size_alloc]; omega) (fun j hj => how j hj))
          clear hv9 hg9 HO3 HB3 HR2 HB2
          go_wp2_with fail
          go_roundw
          case rel => exact ⟨k + 1, by omega, by go_num, Lib.hid (HA2.out (by trivial)), R2, R3⟩
          case measure => simp [intOf]; omega
      · rw [hs] at S2
        have hal : a.length ≤ 100000 := by have := SL2.out a (by rw [hs]; simp); omega
        have hbl : b.length ≤ 100000 := by have := SL2.out b (by rw [hs]; simp); omega
        have S2 := Lib.hid S2
        have NA := Lib.hid (fun W => NU.out a hal W)
        have NB := Lib.hid (fun W => NU.out b hbl W)
        subst hrb
        clear hs hal hbl NU SL2
        generalize (numP a).1 = na at *
        generalize (numP a).2 = ba at *
        generalize (numP b).1 = nb at *
        generalize (numP b).2 = bb at *
        go_wp2_with fail
        refine S2.out.mono ?_
        rintro e w2 ⟨v2, rfl, hO2, hb2⟩
        obtain ⟨g2, cap2, rfl, hg2, hcap2, hc2⟩ := str_at hO2 (by simp)
        have cc0 : w2.cell? ⟨g2, 0, none⟩ = some (.string ⟨a.toArray⟩) := hc2 0 (by simp)
        have cc1 : w2.cell? ⟨g2, 1, none⟩ = some (.string ⟨b.toArray⟩) := hc2 1 (by simp)
        have HB2 := Lib.hid (hB.out.trans (hb2.mono hwr))
        have HR2 := Lib.hid (own_below hR.out hb2)
        clear hO2 hb2 hc2 hB hR S2
        cases ba with
        | false =>
          have HP := Lib.hid (HBAD.out rfl)
          go_wp2_with fail
          refine (NA.out _).mono ?_
          rintro e w3 ⟨rfl, rfl⟩
          go_wp2_with fail
          refine (NB.out _).mono ?_
          rintro e w3 ⟨rfl, rfl⟩
          go_wp2_with fail
          refine bodyPost_ret (v := .tuple #[.slice none 0 0, .bool false]) (by simp [results, Tryz.results50, go_sem]) rfl ⟨_, by rw [HP.out], by rw [HP.out]; exact World.ownsRow_nil _ _ _ _, HB0.out.trans (HB2.out.mono hw1)⟩
        | true =>
          cases bb with
          | false =>
            have HP := Lib.hid (HBAD.out rfl)
            go_wp2_with fail
            refine (NA.out _).mono ?_
            rintro e w3 ⟨rfl, rfl⟩
            go_wp2_with fail
            refine (NB.out _).mono ?_
            rintro e w3 ⟨rfl, rfl⟩
            go_wp2_with fail
            refine bodyPost_ret (v := .tuple #[.slice none 0 0, .bool false]) (by simp [results, Tryz.results50, go_sem]) rfl ⟨_, by rw [HP.out], by rw [HP.out]; exact World.ownsRow_nil _ _ _ _, HB0.out.trans (HB2.out.mono hw1)⟩
          | true =>
            have hw2 := HB2.out.size
            have HO3 := Lib.hid (HR2.out.alloc (.cells #[.int .u32 (na : Int), .int .u32 (nb : Int)] 47))
            have HB3 := Lib.hid (HB2.out.alloc hw2 (.cells #[.int .u32 (na : Int), .int .u32 (nb : Int)] 47))
            go_wp2_with fail
            refine (NA.out _).mono ?_
            rintro e w3 ⟨rfl, rfl⟩
            go_wp2_with fail
            refine (NB.out _).mono ?_
            rintro e w3 ⟨rfl, rfl⟩
            go_wp2_with (at_builtin; refine wpList_append_sl _ rfl (.tmp 51) (.tmp 55) 24 rfl w1.heap.size 47 i0 _ 8 Tryz.underlying24 hi hz0 hz1 hz2 rfl (by decide) _ acc.length (flatL encR acc) rfl HO3.out _ [(na, nb)] 1 rfl encR_len (slAt_oneR _ (na, nb) _) (one_flatR _) (by simp only [List.length_singleton, maxLen]; omega) (by simp only [List.length_singleton]; omega) (by rw [World.size_alloc]; omega) ?_; intro v9 w9 hv9 hg9)
            have R2 : Hid (w9.ownsRow w1.heap.size 47 2 v9 ((ps.take (k + 1)).map fun p => (rngP p).1).length (flatL encR ((ps.take (k + 1)).map fun p => (rngP p).1))) := Lib.hid (by rw [HM.out, List.length_append, flatL_append]; exact hv9)
            have R3 := Lib.hid (HB3.out.grown hg9 (by rw [World.size_alloc]; omega) (fun j hj => how j hj))
            clear hv9 hg9 HO3 HB3 HR2 HB2
            go_wp2_with fail
            go_roundw
            case rel => exact ⟨k + 1, by omega, by go_num, Lib.hid (HA2.out (by trivial)), R2, R3⟩
            case measure => simp [intOf]; omega
      · have HP := Lib.hid (HBAD.out hf)
        generalize splitL 58 x = es at *
        have hpe : 0 < es.length := by omega
        have d3 : decide ((2 : Int) < (es.length : Int)) = true := by simp; omega
        have d4 : decide (2 < es.length) = true := by simp; omega
        have S2 := Lib.hid S2
        clear SL2 NU hf h3
        go_wp2_with fail
        refine S2.out.mono ?_
        rintro e w2 ⟨v2, rfl, hO2, hb2⟩
        obtain ⟨g2, cap2, rfl, hg2, hcap2, hc2⟩ := str_at hO2 hpe
        have HB2 := Lib.hid (hB.out.trans (hb2.mono hwr))
        clear hO2 hb2 hc2 hB hR S2
        go_wp2_with fail
        refine bodyPost_ret (v := .tuple #[.slice none 0 0, .bool false]) (by simp [results, Tryz.results50, go_sem]) rfl ⟨_, by rw [HP.out], by rw [HP.out]; exact World.ownsRow_nil _ _ _ _, HB0.out.trans (HB2.out.mono hw1)⟩
    · obtain rfl : k = n := by omega
      have HP : Hid (pp = ((ps.take k).map (fun p => (rngP p).1), true)) := Lib.hid (by
        have h1 := hA.out
        rw [← HN.out, List.take_length] at h1
        rw [← HPP.out, if_pos h1, ← HN.out, List.take_length])
      obtain ⟨A', c', rfl⟩ := own_any hR.out
      go_wp2_with fail
      refine bodyPost_ret (v := .tuple #[.slice A' ((ps.take k).map fun p => (rngP p).1).length c', .bool true]) (by simp [results, Tryz.results50, go_sem]) rfl ⟨_, by rw [HP.out], by rw [HP.out]; exact own_mono7 hR.out hw1, HB0.out.trans (hB.out.mono hw1)⟩
end Go.Proofs.YthfopimgdikpgaaGreatDoor
