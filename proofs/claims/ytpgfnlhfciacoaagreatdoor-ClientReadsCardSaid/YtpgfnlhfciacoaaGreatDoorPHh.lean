import Derived.Test.YtpgfnlhfciacoaaGreatDoorPGy
import Derived.Test.YtpgfnlhfciacoaaGreatDoorPGo
set_option maxRecDepth 100000
set_option maxHeartbeats 4000000
open Go.Lib renaming hid → Hi
namespace Go.Proofs.YtpgfnlhfciacoaaGreatDoor
open Go.RowKit
def SpAt7 (c : UInt8) (l : List UInt8) (pre : List (List UInt8)) (f k : Nat) : Prop :=
 (f ≤ k ∧ k ≤ l.length ∧ (∀ j, f ≤ j → j < k → l[j]? ≠ some c) ∧ pre ++ YQ c (l.drop f) = YQ c l) ∨ (k = l.length + 1 ∧ pre = YQ c l)
def seg7 (l : List UInt8) (f k : Nat) : List UInt8 := (l.drop f).take (k - f)
theorem spAt7_skip {c : UInt8} {l : List UInt8} {pre : List (List UInt8)} {f k : Nat} (h : SpAt7 c l pre f k) (hk : k < l.length) (hc : l[k]? ≠ some c) : SpAt7 c l pre f (k + 1) := by
 rcases h with h | h
 · refine .inl ⟨by omega, by omega, fun j h1 h2 => ?_, h.2.2.2⟩
   by_cases e : j = k
   · subst e; exact hc
   · exact h.2.2.1 j h1 (by omega)
 · omega
theorem seg7_no {c : UInt8} {l : List UInt8} {f k : Nat} (h : ∀ j, f ≤ j → j < k → l[j]? ≠ some c) : c ∉ seg7 l f k := by
 intro hm
 obtain ⟨i, hi⟩ := List.getElem?_of_mem hm
 unfold seg7 at hi
 have hlt := (List.getElem?_eq_some_iff.1 hi).1
 rw [List.length_take] at hlt
 rw [List.getElem?_take_of_lt (by omega), List.getElem?_drop] at hi
 exact h (f + i) (by omega) (by omega) hi
theorem spAt7_cut {c : UInt8} {l : List UInt8} {pre : List (List UInt8)} {f k : Nat} (h : SpAt7 c l pre f k) (hk : k < l.length) (hc : l[k]? = some c) : SpAt7 c l (pre ++ [seg7 l f k]) (k + 1) (k + 1) := by
 rcases h with ⟨h1, h2, h3, h4⟩ | h
 · refine .inl ⟨Nat.le_refl _, by omega, fun j hj1 hj2 => by omega, ?_⟩
   have hs : l.drop f = seg7 l f k ++ c :: l.drop (k + 1) := by
    unfold seg7
    conv => lhs; rw [← List.take_append_drop (k - f) (l.drop f)]
    congr 1
    rw [List.drop_drop, show f + (k - f) = k by omega, List.drop_eq_getElem_cons hk]
    have := (List.getElem?_eq_some_iff.1 hc).2
    rw [this]
   rw [List.append_assoc, ← h4, hs, splitL_at (seg7_no h3)]
   rfl
 · omega
theorem spAt7_end {c : UInt8} {l : List UInt8} {pre : List (List UInt8)} {f : Nat} (h : SpAt7 c l pre f l.length) : SpAt7 c l (pre ++ [seg7 l f l.length]) (l.length + 1) (l.length + 1) := by
 rcases h with ⟨h1, h2, h3, h4⟩ | h
 · refine .inr ⟨rfl, ?_⟩
   have hs : l.drop f = seg7 l f l.length := by
    unfold seg7
    rw [List.take_of_length_le (by rw [List.length_drop]; exact Nat.le_refl _)]
   rw [← h4, hs, splitL_none (seg7_no h3)]
 · omega
theorem split7_len (c : UInt8) : ∀ l, (YQ c l).length ≤ l.length + 1
 | [] => by simp [YQ]
 | b :: l => by
   have ih := split7_len c l
   unfold YQ
   split
   · simp; omega
   · split
     · simp
     · rename_i h
       rw [h] at ih
       simp only [List.length_cons] at ih ⊢
       omega
theorem split2_any (l : List UInt8) (c : UInt8) (hl : l.length ≤ 1000000) (w : World) :
 Calls Tryz.prog 139 #[.string ⟨l.toArray⟩, .int .u8 (c.toNat : Int)] w fun e w' => ∃ v, e = .returned v ∧ w'.ownsRow w.heap.size 9 1 v (YQ c l).length (YF encS (YQ c l)) ∧ Below w.heap.size w w' := by
 obtain ⟨i0, hi, hz0, hz1, hz2⟩ := info_parts infoS
 have hsz : (ByteArray.mk l.toArray).size = l.length := by show l.toArray.size = _; simp
 have cut := fun (f k : Nat) (h1 : f ≤ k) (h2 : k ≤ l.length) W => run_slice_string (P := Tryz.prog) (w := W) 9 ⟨l.toArray⟩ .i64 .i64 (f : Int) (k : Int) Tryz.underlying9 (by omega) (by omega) (by rw [hsz]; omega)
 have CUT := Hi cut
 have HLEN := Hi (split7_len c l)
 obtain ⟨n, hn⟩ : ∃ n, l.length = n := ⟨_, rfl⟩
 have HN := Hi hn
 have hn1 : n ≤ 1000000 := by omega
 clear cut hsz hl
 obtain ⟨S, hS⟩ : ∃ S, YQ c l = S := ⟨_, rfl⟩
 have HS := Hi hS
 rw [hS]
 clear hS
 go_enter Tryz.func139, Tryz.ntmps139
 go_wp2_with fail
 go_loopw [5, 6, 7] (fun v f i wr => ∃ (k g : Nat) (pre : List (List UInt8)), k ≤ n + 1 ∧ i = .int .i64 (k : Int) ∧ f = .int .i64 (g : Int) ∧ g ≤ n + 1 ∧ pre.length ≤ k ∧ Hid (SpAt7 c l pre g k) ∧ Hid (wr.ownsRow w.heap.size 9 1 v pre.length (YF encS pre)) ∧ Hid (Below w.heap.size w wr)) (fun _ _ i _ => n + 2 - (intOf i).toNat)
 case atStart => exact ⟨0, 0, [], by omega, rfl, rfl, by omega, Nat.le_refl _, Hi (.inl ⟨Nat.le_refl _, by omega, fun j h1 h2 => by omega, rfl⟩), Hi (World.ownsRow_nil _ _ _ _), Hi (Below.refl _ _)⟩
 case round =>
  obtain ⟨k, g, pre, hk, rfl, rfl, hg, hpk, hP, hO, hB⟩ := hrel
  by_cases hend : k = n + 1
  · subst hend
    have HE : Hid (pre = S) := Hi (by
     rcases hP.out with h | h
     · have := HN.out; omega
     · rw [h.2, HS.out])
    have d1 : decide (((n + 1 : Nat) : Int) ≤ (n : Int)) = false := by simp; omega
    have d2 : decide (n + 1 ≤ n) = false := by simp
    go_wp2_with fail
    go_ret
    exact ⟨_, rfl, by rw [← HE.out]; exact hO.out, hB.out⟩
  · have hkn : k ≤ n := by omega
    have hgk : g ≤ k := by
     rcases hP.out with h | h
     · exact h.1
     · have := HN.out; omega
    have cu := CUT.out g k hgk (by rw [hn]; exact hkn)
    have hzx : ((ByteArray.mk l.toArray).extract g k) = ⟨(seg7 l g k).toArray⟩ := by
     unfold seg7
     apply ByteArray.ext
     rw [ByteArray.data_extract]
     apply Array.toList_inj.1
     simp [List.extract]
    have hws := hB.out.size
    have how := fun g2 e => (hO.out.lt g2 e).1
    by_cases hlast : k = n
    · subst hlast
      have HP2 := Hi (show SpAt7 c l (pre ++ [seg7 l g k]) (k + 1) (k + 1) by have := spAt7_end (by rw [HN.out]; exact hP.out); rwa [HN.out] at this)
      simp only [Int.toNat_natCast, hzx] at cu
      have HO2 := Hi (hO.out.alloc (.cells #[.string ⟨(seg7 l g k).toArray⟩] 9))
      have HB2 := Hi (hB.out.alloc hws (.cells #[.string ⟨(seg7 l g k).toArray⟩] 9))
      clear hP hO hzx hend
      generalize seg7 l g k = sg at *
      have e1 : ((k : Int) == (k : Int)) = true := by simp
      go_wp2_with (at_builtin; refine YL _ rfl (.tmp 25) (.tmp 30) 127 rfl w.heap.size 9 i0 _ 16 Tryz.underlying127 hi hz0 hz1 hz2 rfl (by decide) _ pre.length (YF encS pre) rfl HO2.out _ [sg] 1 rfl encS_len (slAt_oneStr _ _ _) (one_flatS _) (by simp only [List.length_singleton, maxLen]; omega) (by simp only [List.length_singleton]; omega) (by rw [World.size_alloc]; omega) ?_; intro v9 w9 hv9 hg9)
      have R2 : Hid (w9.ownsRow w.heap.size 9 1 v9 (pre ++ [sg]).length (YF encS (pre ++ [sg]))) := Hi (by rw [List.length_append, ZR]; exact hv9)
      have R3 := Hi (HB2.out.grown hg9 (by rw [World.size_alloc]; omega) (fun j hj => how j hj))
      clear hv9 hg9 HO2 HB2 hB
      go_wp2_with fail
      go_roundw
      case rel => exact ⟨k + 1, k + 1, pre ++ [sg], by omega, by go_num, by go_num, by omega, by simp; omega, HP2, R2, R3⟩
      case measure => simp [intOf]
    · have hlt : k < l.length := by rw [HN.out]; omega
      have hne : ¬ (k : Int) = (n : Int) := by omega
      have hix : l[k]? = some l[k] := List.getElem?_eq_getElem hlt
      have hbx : (ByteArray.mk l.toArray)[k]'(by show k < l.toArray.size; simpa using hlt) = l[k] := by simp [ByteArray.getElem_eq_getElem_data]
      have hk2 : k < (ByteArray.mk l.toArray).size := by show k < l.toArray.size; simpa using hlt
      by_cases he : l[k] = c
      · have HP2 := Hi (spAt7_cut hP.out hlt (hix.trans (congrArg some he)))
        simp only [Int.toNat_natCast, hzx] at cu
        have HO2 := Hi (hO.out.alloc (.cells #[.string ⟨(seg7 l g k).toArray⟩] 9))
        have HB2 := Hi (hB.out.alloc hws (.cells #[.string ⟨(seg7 l g k).toArray⟩] 9))
        have f1 : ((l[k].toNat : Int) == (c.toNat : Int)) = true := by rw [he]; simp
        have f2 : (l[k].toNat : Int) = (c.toNat : Int) := by rw [he]
        clear hP hO hzx hend he hix
        generalize seg7 l g k = sg at *
        go_wp2_with (at_builtin; refine YL _ rfl (.tmp 25) (.tmp 30) 127 rfl w.heap.size 9 i0 _ 16 Tryz.underlying127 hi hz0 hz1 hz2 rfl (by decide) _ pre.length (YF encS pre) rfl HO2.out _ [sg] 1 rfl encS_len (slAt_oneStr _ _ _) (one_flatS _) (by simp only [List.length_singleton, maxLen]; omega) (by simp only [List.length_singleton]; omega) (by rw [World.size_alloc]; omega) ?_; intro v9 w9 hv9 hg9)
        have R2 : Hid (w9.ownsRow w.heap.size 9 1 v9 (pre ++ [sg]).length (YF encS (pre ++ [sg]))) := Hi (by rw [List.length_append, ZR]; exact hv9)
        have R3 := Hi (HB2.out.grown hg9 (by rw [World.size_alloc]; omega) (fun j hj => how j hj))
        clear hv9 hg9 HO2 HB2 hB
        go_wp2_with fail
        go_roundw
        case rel => exact ⟨k + 1, k + 1, pre ++ [sg], by omega, by go_num, by go_num, by omega, by simp; omega, HP2, R2, R3⟩
        case measure => simp [intOf]; omega
      · have HP2 := Hi (spAt7_skip hP.out hlt (by rw [hix]; intro e; injection e with e; exact he e))
        have hx2 : ¬ (l[k].toNat : Int) = (c.toNat : Int) := fun e => he (UInt8.toNat_inj.1 (by omega))
        have f1 : ((l[k].toNat : Int) == (c.toNat : Int)) = false := by simpa using hx2
        clear hP hzx hend he hix cu
        go_wp2_with fail
        go_roundw
        case rel => exact ⟨k + 1, g, pre, by omega, by go_num, rfl, hg, by omega, HP2, hO, hB⟩
        case measure => simp [intOf]; omega
theorem number2_any (l : List UInt8) (hl : l.length ≤ 1000000000) (w : World) :
 Calls Tryz.prog 140 #[.string ⟨l.toArray⟩] w fun e w' => e = .returned (.tuple #[.int .u32 ((numP l).1 : Nat), .bool (numP l).2]) ∧ w = w' := by
 have RN := refNumber_any ⟨l.toArray⟩ (by show l.toArray.size ≤ _; simpa using hl) w
 have e0 : (ByteArray.mk l.toArray).data.toList = l := rfl
 rw [e0] at RN
 have RN := Hi RN
 unfold numP
 by_cases h : l = [42]
 · subst h
   rw [if_pos rfl]
   clear RN e0
   go_enter Tryz.func140, Tryz.ntmps140
   go_wp2_with fail
   exact bodyPost_ret (v := .tuple #[.int .u32 0, .bool true]) (by simp [results, Tryz.results140, go_sem]) rfl ⟨rfl, rfl⟩
 · rw [if_neg h]
   have hb : (l == [42]) = false := by simpa using h
   clear h e0
   generalize (QH l).getD 0 = n at *
   generalize (QH l).isSome = b at *
   have g1 : decide ((0 : Int) < (n : Int)) = decide (0 < n) := by rw [decide_eq_decide]; omega
   cases b with
   | false =>
     go_enter Tryz.func140, Tryz.ntmps140
     go_wp2_with fail
     refine RN.out.mono ?_
     rintro e w1 ⟨rfl, rfl⟩
     go_wp2_with fail
     exact bodyPost_ret (v := .tuple #[.int .u32 (n : Int), .bool false]) (by simp [results, Tryz.results140, go_sem]) rfl ⟨rfl, rfl⟩
   | true =>
     generalize g3 : decide (0 < n) = q at *
     go_enter Tryz.func140, Tryz.ntmps140
     go_wp2_with fail
     refine RN.out.mono ?_
     rintro e w1 ⟨rfl, rfl⟩
     go_wp2_with fail
     exact bodyPost_ret (v := .tuple #[.int .u32 (n : Int), .bool q]) (by simp [results, Tryz.results140, go_sem]) rfl ⟨rfl, rfl⟩
theorem numP_no58 {l : List UInt8} (h : (numP l).2 = true) : (58 : UInt8) ∉ l := by
 unfold numP at h
 split at h
 · rename_i e; subst e; decide
 · rw [Bool.and_eq_true] at h
   intro hm
   have : l.all QC = false := by
    rw [List.all_eq_false]
    exact ⟨58, hm, by decide⟩
   rw [numOf_nodig this] at h
   simp at h
theorem splitL_two {c : UInt8} {a b : List UInt8} (ha : c ∉ a) (hb : c ∉ b) : YQ c (a ++ c :: b) = [a, b] := by rw [splitL_at ha, splitL_none hb]
theorem rng_parts (l : List UInt8) :
 (∃ a, YQ 58 l = [a] ∧ rngP l = (((numP a).1, (numP a).1), (numP a).2)) ∨ (∃ a b, YQ 58 l = [a, b] ∧ rngP l = (((numP a).1, (numP b).1), (numP a).2 && (numP b).2)) ∨ (2 < (YQ 58 l).length ∧ (rngP l).2 = false) := by
 by_cases hneg : Lib.indexByte l 58 < 0
 · obtain ⟨_, hn⟩ := index_neg hneg
   exact .inl ⟨l, splitL_none hn, by unfold rngP; rw [if_pos hneg]⟩
 · obtain ⟨o, ho, hlt, hno, hl⟩ := index_nat hneg
   have hr : rngP l = (((numP (l.take o)).1, (numP (l.drop (o + 1))).1), (numP (l.take o)).2 && (numP (l.drop (o + 1))).2) := by
    unfold rngP
    rw [if_neg hneg, ho, Int.toNat_natCast]
   by_cases hb : (58 : UInt8) ∈ l.drop (o + 1)
   · refine .inr (.inr ⟨?_, ?_⟩)
     · rw [hl, splitL_at hno]
       have h1 := splitL_ne 58 (l.drop (o + 1))
       have : 2 ≤ (YQ 58 (l.drop (o + 1))).length := by
        have hneg2 : ¬ Lib.indexByte (l.drop (o + 1)) 58 < 0 := fun h => (index_neg h).2 hb
        obtain ⟨o2, _, _, hno2, hl2⟩ := index_nat hneg2
        rw [hl2, splitL_at hno2, List.length_cons]
        have := List.length_pos_iff.2 (splitL_ne 58 ((l.drop (o + 1)).drop (o2 + 1)))
        omega
       rw [List.length_cons]; omega
     · rw [hr]
       have : (numP (l.drop (o + 1))).2 = false := by
        cases h : (numP (l.drop (o + 1))).2 with
        | false => rfl
        | true => exact absurd hb (numP_no58 h)
       simp [this]
   · exact .inr (.inl ⟨l.take o, l.drop (o + 1), by conv => lhs; rw [hl]
                                                    exact splitL_two hno hb, hr⟩)
theorem slAt_oneR (w : World) (r : R) (T : TypeId) : SlAt encR 2 (w.alloc (.cells #[.int .u32 (r.1 : Int), .int .u32 (r.2 : Int)] T)) (some ⟨w.heap.size, 0, none⟩) [r] := by
 refine .inr ⟨w.heap.size, 0, rfl, by simp, fun j y hj i u hi => ?_⟩
 have hj0 : j = 0 := by
  have := (List.getElem?_eq_some_iff.1 hj).1
  simpa using this
 subst hj0
 obtain rfl : r = y := by simpa using hj
 rw [Joins.cell_alloc_mark_at w _ _ _ _ _ rfl]
 match i, hi with
 | 0, hi => simpa [encR] using hi
 | 1, hi => simpa [encR] using hi
theorem one_flatR (l : List R) : ∀ u ∈ YF encR l, u.oneCell' = true := by
 induction l with
 | nil => intro u hu; simp [YF] at hu
 | cons t l ih =>
   intro u hu
   have e : YF encR (t :: l) = encR t ++ YF encR l := rfl
   rw [e] at hu
   rcases List.mem_append.1 hu with h | h
   · exact encR_one t u h
   · exact ih u h
theorem str_at {w : World} {base : Nat} {v : Value} {l : List (List UInt8)} (h : w.ownsRow base 9 1 v l.length (YF encS l)) (hpos : 0 < l.length) : ∃ g cap, v = .slice (some ⟨g, 0, none⟩) l.length cap ∧ g < w.heap.size ∧ l.length ≤ cap ∧ ∀ j (hj : j < l.length), w.cell? ⟨g, j, none⟩ = some (.string ⟨l[j].toArray⟩) := by
 rcases h.2 with ⟨rfl, h0⟩ | ⟨g, cap, cur, rfl, h1, h2, h3, h4, h5, h6⟩
 · omega
 · refine ⟨g, cap, rfl, (Array.getElem?_eq_some_iff.1 h2).1, by first | exact h3 | exact h5 | omega, fun j hj => ?_⟩
   have h7 : (YF encS l)[j]? = some (.string ⟨l[j].toArray⟩) := by
    have := flatL_at encS_len l j _ (List.getElem?_eq_getElem hj) 0 (.string ⟨l[j].toArray⟩) (by simp [encS])
    simpa using this
   have := h.cells (g := g) rfl j _ h7
   rwa [Addr.add_lit, Nat.zero_add] at this
theorem seg_lens (c : UInt8) : ∀ (l : List UInt8), ∀ p ∈ YQ c l, p.length ≤ l.length
 | [] => by simp [YQ]
 | b :: l => by
   intro p hp
   have ih := seg_lens c l
   unfold YQ at hp
   split at hp
   · rcases List.mem_cons.1 hp with rfl | h
     · simp
     · have := ih p h; simp; omega
   · split at hp
     · obtain rfl := List.mem_singleton.1 hp; simp
     · rename_i q qs hq
       rcases List.mem_cons.1 hp with rfl | h
       · have := ih q (by rw [hq]; simp); simp; omega
       · have := ih p (by rw [hq]; simp [h]); simp; omega
theorem ZW (l : List UInt8) (hl : l.length ≤ 100000) (w : World) :
 Calls Tryz.prog 100 #[.string ⟨l.toArray⟩] w fun e w' => ∃ v, e = .returned (.tuple #[v, .bool (YP l).2]) ∧ w'.ownsRow w.heap.size 50 2 v (YP l).1.length (YF encR (YP l).1) ∧ Below w.heap.size w w' := by
 obtain ⟨i0, hi, hz0, hz1, hz2⟩ := info_parts infoR
 have SP := Hi (split2_any l 44 (by omega) w)
 have hslen := split7_len 44 l
 have SLN := Hi (seg_lens 44 l)
 obtain ⟨pp, hpp⟩ : ∃ pp, YP l = pp := ⟨_, rfl⟩
 rw [hpp]
 have HPP := Hi hpp
 clear hpp
 unfold YP at HPP
 have hpos : 0 < (YQ 44 l).length := List.length_pos_iff.2 (splitL_ne 44 l)
 generalize YQ 44 l = ps at *
 go_enter Tryz.func100, Tryz.ntmps100
 go_wp2_with fail
 refine SP.out.mono ?_
 rintro e w1 ⟨v, rfl, hO, hB0⟩
 obtain ⟨g, cap, rfl, hg, hcap, hc⟩ := str_at hO hpos
 have HC := Hi hc
 have HB0 := Hi hB0
 have hw1 := hB0.size
 obtain ⟨n, hn⟩ : ∃ n, ps.length = n := ⟨_, rfl⟩
 have HN := Hi hn
 rw [hn] at hslen hcap hpos ⊢
 clear hc hB0 hO SP hn
 go_wp2_with fail
 go_loopw [4, 6] (fun v i wr => ∃ k : Nat, k ≤ n ∧ i = .int .i64 (k : Int) ∧ Hid ((ps.take k).all (fun p => (rngP p).2) = true) ∧ Hid (wr.ownsRow w1.heap.size 50 2 v ((ps.take k).map fun p => (rngP p).1).length (YF encR ((ps.take k).map fun p => (rngP p).1))) ∧ Hid (Below w1.heap.size w1 wr)) (fun _ i _ => n - (intOf i).toNat)
 case atStart => exact ⟨0, Nat.zero_le _, rfl, Hi (by simp), Hi (World.ownsRow_nil _ _ _ _), Hi (Below.refl _ _)⟩
 case round =>
  obtain ⟨k, hk, rfl, hA, hR, hB⟩ := hrel
  by_cases hlt : k < n
  · have hkl : k < ps.length := by rw [HN.out]; exact hlt
    have ck := (hB.out.cell (p := ⟨g, k, none⟩) hg).trans (HC.out k hkl)
    have hpl := SLN.out _ (List.getElem_mem hkl)
    have htk : ps.take (k + 1) = ps.take k ++ [ps[k]] := List.take_succ_eq_append_getElem hkl
    have HA2 : Hid ((rngP ps[k]).2 = true → (ps.take (k + 1)).all (fun p => (rngP p).2) = true) := Hi (fun h => by rw [htk, List.all_append, hA.out]; simp [h])
    have HBAD : Hid ((rngP ps[k]).2 = false → pp = ([], false)) := Hi (fun h => by
     rw [← HPP.out, if_neg]
     intro ha
     have := List.all_eq_true.1 ha _ (List.getElem_mem hkl)
     rw [h] at this
     cases this)
    have HM : Hid ((ps.take (k + 1)).map (fun p => (rngP p).1) = (ps.take k).map (fun p => (rngP p).1) ++ [(rngP ps[k]).1]) := Hi (by rw [htk, List.map_append]; rfl)
    have hml : ((ps.take k).map fun p => (rngP p).1).length ≤ k := by simp; omega
    have hpt := rng_parts ps[k]
    have S2 := split2_any ps[k] 58 (by omega) wr
    have SL2 := Hi (seg_lens 58 ps[k])
    have NU := Hi (fun x (hx : x.length ≤ 100000) W => number2_any x (by omega) W)
    have how := fun g2 e => (hR.out.lt g2 e).1
    have hwr := hB.out.size
    generalize (ps.take k).map (fun p => (rngP p).1) = acc at *
    generalize hrp : rngP ps[k] = rp at *
    clear hrp htk hA
    generalize ps[k] = x at *
    rcases hpt with ⟨a, hs, hra⟩ | ⟨a, b, hs, hrb⟩ | ⟨h3, hf⟩
    · rw [hs] at S2
      have hal : a.length ≤ 100000 := by have := SL2.out a (by rw [hs]; simp); omega
      have S2 := Hi S2
      have NA := Hi (fun W => NU.out a hal W)
      subst hra
      clear hs hal NU SL2
      generalize (numP a).1 = na at *
      generalize (numP a).2 = ba at *
      go_wp2_with fail
      refine S2.out.mono ?_
      rintro e w2 ⟨v2, rfl, hO2, hb2⟩
      obtain ⟨g2, cap2, rfl, hg2, hcap2, hc2⟩ := str_at hO2 (by simp)
      have cc0 := hc2 0 (by simp)
      have cc0 : w2.cell? ⟨g2, 0, none⟩ = some (.string ⟨a.toArray⟩) := cc0
      have HB2 := Hi (hB.out.trans (hb2.mono hwr))
      have HR2 := Hi (ZP hR.out hb2)
      clear hO2 hb2 hc2 hB hR S2
      cases ba with
      | false =>
        have HP := Hi (HBAD.out rfl)
        go_wp2_with fail
        refine (NA.out _).mono ?_
        rintro e w3 ⟨rfl, rfl⟩
        go_wp2_with fail
        refine (NA.out _).mono ?_
        rintro e w3 ⟨rfl, rfl⟩
        go_wp2_with fail
        refine bodyPost_ret (v := .tuple #[.slice none 0 0, .bool false]) (by simp [results, Tryz.results100, go_sem]) rfl ⟨_, by rw [HP.out], by rw [HP.out]; exact World.ownsRow_nil _ _ _ _, HB0.out.trans (HB2.out.mono hw1)⟩
      | true =>
        have hw2 := HB2.out.size
        have HO3 := Hi (HR2.out.alloc (.cells #[.int .u32 (na : Int), .int .u32 (na : Int)] 50))
        have HB3 := Hi (HB2.out.alloc hw2 (.cells #[.int .u32 (na : Int), .int .u32 (na : Int)] 50))
        go_wp2_with fail
        refine (NA.out _).mono ?_
        rintro e w3 ⟨rfl, rfl⟩
        go_wp2_with fail
        refine (NA.out _).mono ?_
        rintro e w3 ⟨rfl, rfl⟩
        go_wp2_with (at_builtin; refine YL _ rfl (.tmp 51) (.tmp 55) 22 rfl w1.heap.size 50 i0 _ 8 Tryz.underlying22 hi hz0 hz1 hz2 rfl (by decide) _ acc.length (YF encR acc) rfl HO3.out _ [(na, na)] 1 rfl encR_len (slAt_oneR _ (na, na) _) (one_flatR _) (by simp only [List.length_singleton, maxLen]; omega) (by simp only [List.length_singleton]; omega) (by rw [World.size_alloc]; omega) ?_; intro v9 w9 hv9 hg9)
        have R2 : Hid (w9.ownsRow w1.heap.size 50 2 v9 ((ps.take (k + 1)).map fun p => (rngP p).1).length (YF encR ((ps.take (k + 1)).map fun p => (rngP p).1))) := Hi (by rw [HM.out, List.length_append, ZR]; exact hv9)
        have R3 := Hi (HB3.out.grown hg9 (by rw [World.size_alloc]; omega) (fun j hj => how j hj))
        clear hv9 hg9 HO3 HB3 HR2 HB2
        go_wp2_with fail
        go_roundw
        case rel => exact ⟨k + 1, by omega, by go_num, Hi (HA2.out (by trivial)), R2, R3⟩
        case measure => simp [intOf]; omega
    · rw [hs] at S2
      have hal : a.length ≤ 100000 := by have := SL2.out a (by rw [hs]; simp); omega
      have hbl : b.length ≤ 100000 := by have := SL2.out b (by rw [hs]; simp); omega
      have S2 := Hi S2
      have NA := Hi (fun W => NU.out a hal W)
      have NB := Hi (fun W => NU.out b hbl W)
      subst hrb
      clear hs hal hbl NU SL2
      generalize (numP a).1 = na at *
      generalize (numP a).2 = ba at *
      generalize (numP b).1 = nb at *
      generalize (numP b).2 = bb at *
      go_wp2_with fail
      refine S2.out.mono ?_
      rintro e w2 ⟨v2, rfl, hO2, hb2⟩
      obtain ⟨g2, cap2, rfl, hg2, hcap2, hc2⟩ := str_at hO2 (by simp)
      have cc0 : w2.cell? ⟨g2, 0, none⟩ = some (.string ⟨a.toArray⟩) := hc2 0 (by simp)
      have cc1 : w2.cell? ⟨g2, 1, none⟩ = some (.string ⟨b.toArray⟩) := hc2 1 (by simp)
      have HB2 := Hi (hB.out.trans (hb2.mono hwr))
      have HR2 := Hi (ZP hR.out hb2)
      clear hO2 hb2 hc2 hB hR S2
      cases ba with
      | false =>
        have HP := Hi (HBAD.out rfl)
        go_wp2_with fail
        refine (NA.out _).mono ?_
        rintro e w3 ⟨rfl, rfl⟩
        go_wp2_with fail
        refine (NB.out _).mono ?_
        rintro e w3 ⟨rfl, rfl⟩
        go_wp2_with fail
        refine bodyPost_ret (v := .tuple #[.slice none 0 0, .bool false]) (by simp [results, Tryz.results100, go_sem]) rfl ⟨_, by rw [HP.out], by rw [HP.out]; exact World.ownsRow_nil _ _ _ _, HB0.out.trans (HB2.out.mono hw1)⟩
      | true =>
        cases bb with
        | false =>
          have HP := Hi (HBAD.out rfl)
          go_wp2_with fail
          refine (NA.out _).mono ?_
          rintro e w3 ⟨rfl, rfl⟩
          go_wp2_with fail
          refine (NB.out _).mono ?_
          rintro e w3 ⟨rfl, rfl⟩
          go_wp2_with fail
          refine bodyPost_ret (v := .tuple #[.slice none 0 0, .bool false]) (by simp [results, Tryz.results100, go_sem]) rfl ⟨_, by rw [HP.out], by rw [HP.out]; exact World.ownsRow_nil _ _ _ _, HB0.out.trans (HB2.out.mono hw1)⟩
        | true =>
          have hw2 := HB2.out.size
          have HO3 := Hi (HR2.out.alloc (.cells #[.int .u32 (na : Int), .int .u32 (nb : Int)] 50))
          have HB3 := Hi (HB2.out.alloc hw2 (.cells #[.int .u32 (na : Int), .int .u32 (nb : Int)] 50))
          go_wp2_with fail
          refine (NA.out _).mono ?_
          rintro e w3 ⟨rfl, rfl⟩
          go_wp2_with fail
          refine (NB.out _).mono ?_
          rintro e w3 ⟨rfl, rfl⟩
          go_wp2_with (at_builtin; refine YL _ rfl (.tmp 51) (.tmp 55) 22 rfl w1.heap.size 50 i0 _ 8 Tryz.underlying22 hi hz0 hz1 hz2 rfl (by decide) _ acc.length (YF encR acc) rfl HO3.out _ [(na, nb)] 1 rfl encR_len (slAt_oneR _ (na, nb) _) (one_flatR _) (by simp only [List.length_singleton, maxLen]; omega) (by simp only [List.length_singleton]; omega) (by rw [World.size_alloc]; omega) ?_; intro v9 w9 hv9 hg9)
          have R2 : Hid (w9.ownsRow w1.heap.size 50 2 v9 ((ps.take (k + 1)).map fun p => (rngP p).1).length (YF encR ((ps.take (k + 1)).map fun p => (rngP p).1))) := Hi (by rw [HM.out, List.length_append, ZR]; exact hv9)
          have R3 := Hi (HB3.out.grown hg9 (by rw [World.size_alloc]; omega) (fun j hj => how j hj))
          clear hv9 hg9 HO3 HB3 HR2 HB2
          go_wp2_with fail
          go_roundw
          case rel => exact ⟨k + 1, by omega, by go_num, Hi (HA2.out (by trivial)), R2, R3⟩
          case measure => simp [intOf]; omega
    · have HP := Hi (HBAD.out hf)
      generalize YQ 58 x = es at *
      have hpe : 0 < es.length := by omega
      have d3 : decide ((2 : Int) < (es.length : Int)) = true := by simp; omega
      have d4 : decide (2 < es.length) = true := by simp; omega
      have S2 := Hi S2
      clear SL2 NU hf h3
      go_wp2_with fail
      refine S2.out.mono ?_
      rintro e w2 ⟨v2, rfl, hO2, hb2⟩
      obtain ⟨g2, cap2, rfl, hg2, hcap2, hc2⟩ := str_at hO2 hpe
      have HB2 := Hi (hB.out.trans (hb2.mono hwr))
      clear hO2 hb2 hc2 hB hR S2
      go_wp2_with fail
      refine bodyPost_ret (v := .tuple #[.slice none 0 0, .bool false]) (by simp [results, Tryz.results100, go_sem]) rfl ⟨_, by rw [HP.out], by rw [HP.out]; exact World.ownsRow_nil _ _ _ _, HB0.out.trans (HB2.out.mono hw1)⟩
  · obtain rfl : k = n := by omega
    have HP : Hid (pp = ((ps.take k).map (fun p => (rngP p).1), true)) := Hi (by
     have h1 := hA.out
     rw [← HN.out, List.take_length] at h1
     rw [← HPP.out, if_pos h1, ← HN.out, List.take_length])
    obtain ⟨A', c', rfl⟩ := YV hR.out
    go_wp2_with fail
    refine bodyPost_ret (v := .tuple #[.slice A' ((ps.take k).map fun p => (rngP p).1).length c', .bool true]) (by simp [results, Tryz.results100, go_sem]) rfl ⟨_, by rw [HP.out], by rw [HP.out]; exact own_mono7 hR.out hw1, HB0.out.trans (hB.out.mono hw1)⟩
def letN (k : Nat) : UInt8 := if k = 0 then 101 else if k = 1 then 115 else if k = 2 then 40 else if k = 3 then 41 else if k = 4 then 119 else if k = 5 then 113 else 108
def YK (ts : List Tok) : List UInt8 := ts.map fun t => letN t.kind
theorem letN_s {k : Nat} (h : k ≤ 6) : letN k = 115 ↔ k = 1 := by
 have h2 : k = 0 ∨ k = 1 ∨ k = 2 ∨ k = 3 ∨ k = 4 ∨ k = 5 ∨ k = 6 := by omega
 rcases h2 with rfl | rfl | rfl | rfl | rfl | rfl | rfl <;> decide
theorem cutK (k : Nat) (h : k ≤ 6) (W : World) : (Instr.slice 9 (.string ⟨#[101, 115, 40, 41, 119, 113, 108]⟩) (some (.int .i64 (k : Int))) (some (.int .i64 ((k : Int) + 1))) none).run Tryz.prog W = .ok (.string ⟨#[letN k]⟩) W := by
 have h2 : k = 0 ∨ k = 1 ∨ k = 2 ∨ k = 3 ∨ k = 4 ∨ k = 5 ∨ k = 6 := by omega
 rw [run_slice_string (P := Tryz.prog) (w := W) 9 _ .i64 .i64 _ _ Tryz.underlying9 (by omega) (by omega) (by show _ ≤ (7 : Int); omega)]
 rcases h2 with rfl | rfl | rfl | rfl | rfl | rfl | rfl <;> rfl
theorem drewN_below8 (w : World) (n : Nat) : Below w.heap.size w (w.drewN n) := ⟨rfl, rfl, rfl, Nat.le_refl _, fun _ _ => rfl⟩
theorem str_snoc7 (l : List UInt8) (c : UInt8) : (ByteArray.mk l.toArray ++ ByteArray.mk #[c]) = ⟨(l ++ [c]).toArray⟩ := by
 apply ByteArray.ext
 simp [ByteArray.data_append]
theorem ZN (A : Option Addr) (c : Nat) (ts : List Tok) (hl : ts.length ≤ 10000) (hk6 : ∀ t ∈ ts, t.kind ≤ 6) (w : World) (hS : SlAt encT 3 w A ts) :
 Calls Tryz.prog 97 #[.slice A ts.length c] w fun e w' => e = .returned (.string ⟨(YK ts).toArray⟩) ∧ Below w.heap.size w w' := by
 have HS := Hi hS
 have HK := Hi hk6
 clear hS hk6
 go_enter Tryz.func97, Tryz.ntmps97
 go_wp2_with fail
 go_loopw [3, 4] (fun s i wr => ∃ k : Nat, k ≤ ts.length ∧ i = .int .i64 (k : Int) ∧ s = .string ⟨(YK (ts.take k)).toArray⟩ ∧ Hid (Below w.heap.size w wr)) (fun _ i _ => ts.length - (intOf i).toNat)
 case atStart => exact ⟨0, Nat.zero_le _, rfl, rfl, Hi (Below.refl _ _)⟩
 case round =>
  obtain ⟨k, hk, rfl, rfl, hB⟩ := hrel
  by_cases hlt : k < ts.length
  · obtain ⟨b, off, rfl, _, hc0, _, _⟩ := tk_at (HS.out.below hB.out) hlt
    have hkd := HK.out _ (List.getElem_mem hlt)
    have htk : YK (ts.take (k + 1)) = YK (ts.take k) ++ [letN ts[k].kind] := by
     unfold YK
     rw [List.take_succ_eq_append_getElem hlt, List.map_append]; rfl
    have HT := Hi htk
    have hlen : (YK (ts.take k)).length ≤ 10000 := by simp [YK]; omega
    have cu := fun W => cutK ts[k].kind hkd W
    clear htk
    generalize ts[k].kind = kd at *
    generalize YK (ts.take k) = acc at *
    have hk0 : (0 : Int) ≤ (k : Int) := by omega
    have hk1 : (k : Int) < (ts.length : Int) := by omega
    have hw1 : IntKind.i64.wrap ((kd : Int) + 1) = (kd : Int) + 1 := by
     simp only [IntKind.wrap, IntKind.bits, IntKind.signed, Bool.true_and, Int.reducePow, Nat.reduceSub, ge_iff_le, decide_eq_true_eq]
     split <;> omega
    go_wp2_with fail
    go_quiet (fail)
    go_wp2_with fail
    go_roundw
    case rel => exact ⟨k + 1, by omega, by go_num, by rw [HT.out, ← str_snoc7], Hi (YA hB.out (drewN_below8 _ _))⟩
    case measure => simp [intOf]; omega
  · obtain rfl : k = ts.length := by omega
    go_wp2_with fail
    go_ret
    exact ⟨by rw [List.take_length]; rfl, hB.out⟩
theorem rmailbox_any (t : Tok) (hl : t.text.length ≤ 1000000) (w : World) :
 Calls Tryz.prog 98 #[.agg #[.int .i64 (t.kind : Int), .string ⟨t.text.toArray⟩, .int .i64 (t.at_ : Int)]] w fun e w' => e = .returned (.bool (mboxR t)) ∧ Below w.heap.size w w' := by
 unfold mboxR
 have HB := Hi (YB w (.cells #[.int .i64 (t.kind : Int), .string ⟨t.text.toArray⟩, .int .i64 (t.at_ : Int)] 136))
 by_cases h4 : t.kind = 4
 · rw [if_pos h4]
   have e4 : ((t.kind : Int) != 4) = false := by rw [h4]; rfl
   have AT := Hi (fun n W h b hb => refAtom_is n W h b hb)
   unfold mbB
   generalize t.kind = kd at *
   generalize t.at_ = at_ at *
   generalize t.text = x at *
   obtain ⟨q, hq⟩ : ∃ q, (x.all fun c => mbN c.toNat) = q := ⟨_, rfl⟩
   rw [hq]
   have HQ := Hi hq
   have hx0 := YD w (.cells #[.int .i64 (kd : Int), .string ⟨x.toArray⟩, .int .i64 (at_ : Int)] 136)
   have c1 := cell_of_row _ _ 1 _ _ _ hx0
   clear hq hx0 h4
   go_enter Tryz.func98, Tryz.ntmps98
   go_wp2_with fail
   go_loop [3] (fun i => ∃ k : Nat, k ≤ x.length ∧ i = .int .i64 (k : Int) ∧ Hid (((x.take k).all fun c => mbN c.toNat) = true)) (fun i => x.length - (intOf i).toNat)
   case atStart => exact ⟨0, Nat.zero_le _, rfl, Hi (by simp)⟩
   case round =>
    obtain ⟨k, hk, rfl, hA⟩ := hrel
    by_cases hlt : k < x.length
    · have hlt2 : k < (ByteArray.mk x.toArray).size := by show k < x.toArray.size; simpa using hlt
      have hn : x[k].toNat ≤ 255 := by have := x[k].toNat_lt; omega
      have hst : ((x.take (k + 1)).all fun c => mbN c.toNat) = mbN x[k].toNat := by
       rw [List.take_succ_eq_append_getElem hlt, List.all_append, hA.out]; simp
      have HBAD : Hid (mbN x[k].toNat = false → q = false) := Hi (fun h => by
       rw [← HQ.out, List.all_eq_false]
       exact ⟨x[k], List.getElem_mem hlt, by simp [h]⟩)
      have HST := Hi hst
      have hbx : (ByteArray.mk x.toArray)[k] = x[k] := by simp [ByteArray.getElem_eq_getElem_data]
      have A1 := fun W => AT.out x[k].toNat W hn
      clear hst hA
      generalize x[k] = y at *
      cases ha : atomN y.toNat with
      | true =>
        have A2 := Hi (fun W => A1 W true ha)
        have HMT : Hid (mbN y.toNat = true) := Hi (by unfold mbN; rw [ha]; rfl)
        clear HBAD
        go_wp2_with fail
        refine (A2.out _).mono ?_
        rintro e w1 ⟨rfl, rfl⟩
        go_wp2_with fail
        go_round
        case rel => exact ⟨k + 1, by omega, by go_num, Hi (by rw [HST.out]; exact HMT.out)⟩
        case measure => simp [intOf]; omega
      | false =>
        have A2 := Hi (fun W => A1 W false ha)
        by_cases h93 : y.toNat = 93
        · have f1 : ((y.toNat : Int) != 93) = false := by rw [h93]; rfl
          have HMT : Hid (mbN y.toNat = true) := Hi (by unfold mbN; rw [h93]; simp)
          clear HBAD h93
          go_wp2_with fail
          refine (A2.out _).mono ?_
          rintro e w1 ⟨rfl, rfl⟩
          go_wp2_with fail
          go_round
          case rel => exact ⟨k + 1, by omega, by go_num, Hi (by rw [HST.out]; exact HMT.out)⟩
          case measure => simp [intOf]; omega
        · have f2 : ¬ (y.toNat : Int) = 93 := by omega
          have f1 : ((y.toNat : Int) != 93) = true := by simpa using f2
          have HZ := Hi (HBAD.out (by unfold mbN; rw [ha]; simpa using h93))
          go_wp2_with fail
          refine (A2.out _).mono ?_
          rintro e w1 ⟨rfl, rfl⟩
          go_wp2_with fail
          go_ret
          exact ⟨YU HZ.out.symm, HB.out⟩
    · obtain rfl : k = x.length := by omega
      have HZ : Hid (q = true) := Hi (by
       rw [← HQ.out]
       have := hA.out
       rwa [List.take_length] at this)
      go_wp2_with fail
      go_ret
      exact ⟨YU HZ.out.symm, HB.out⟩
 · rw [if_neg h4]
   have e4' : ¬ (t.kind : Int) = 4 := by omega
   have e4 : ((t.kind : Int) != 4) = true := by simpa using e4'
   by_cases h5 : t.kind = 5
   · have R := Hi (show decide (t.kind = 5 ∨ t.kind = 6) = true by simp [h5])
     have e5 : ((t.kind : Int) == 5) = true := by rw [h5]; rfl
     clear h4 h5 e4'
     go_enter Tryz.func98, Tryz.ntmps98
     go_wp2_with fail
     go_ret
     exact ⟨YU R.out.symm, HB.out⟩
   · have e5' : ¬ (t.kind : Int) = 5 := by omega
     have e5 : ((t.kind : Int) == 5) = false := by simpa using e5'
     have R := Hi (show ((t.kind : Int) == 6) = decide (t.kind = 5 ∨ t.kind = 6) by rw [Bool.eq_iff_iff]; simp [h5]; omega)
     clear h4 h5
     go_enter Tryz.func98, Tryz.ntmps98
     go_wp2_with fail
     go_ret
     exact ⟨YU R.out, HB.out⟩
def goW (f : List UInt8 → Nat) : Bool → Nat → List Tok → Option Nat
 | odd, sum, [] => if odd then some sum else none
 | true, sum, t :: r => if t.kind = 1 then goW f false sum r else none
 | false, sum, t :: r => if t.kind = 4 ∧ f t.text ≠ 0 then goW f true (sum ||| f t.text) r else none
def foldW (f : List UInt8 → Nat) (sum : Nat) (ns : List (List UInt8)) : Option Nat := if (ns.all fun p => f p != 0) = true then some (ns.foldl (fun a p => a ||| f p) sum) else none
theorem goW_is (f : List UInt8 → Nat) : ∀ (ts : List Tok) (sum : Nat), goW f false sum ts = (ZC ts).bind (foldW f sum) := by
 suffices h : ∀ (n : Nat) (ts : List Tok), ts.length ≤ n → ∀ sum, goW f false sum ts = (ZC ts).bind (foldW f sum) from fun ts => h ts.length ts (Nat.le_refl _)
 intro n
 induction n with
 | zero =>
   intro ts hp sum
   obtain rfl : ts = [] := List.length_eq_zero_iff.1 (by omega)
   simp [goW, ZC]
 | succ n ih =>
   intro ts hp sum
   rcases ts with _ | ⟨t, _ | ⟨s, r⟩⟩
   · simp [goW, ZC]
   · by_cases h4 : t.kind = 4 <;> by_cases h0 : f t.text = 0 <;> simp [goW, ZC, foldW, h4, h0]
   · have hi := ih r (by simp at hp; omega) (sum ||| f t.text)
     by_cases h4 : t.kind = 4
     · by_cases h1 : s.kind = 1
       · by_cases h0 : f t.text = 0
         · have : ∀ ns : List (List UInt8), foldW f sum (t.text :: ns) = none := fun ns => by simp [foldW, h0]
           cases hw : ZC r <;> simp [goW, ZC, h4, h1, h0, hw, this]
         · have : ∀ ns : List (List UInt8), foldW f sum (t.text :: ns) = foldW f (sum ||| f t.text) ns := fun ns => by simp [foldW, h0]
           simp only [goW, ZC, h4, h1, h0, ne_eq, not_false_eq_true, and_self, if_true, hi]
           cases hw : ZC r <;> simp [this]
       · by_cases h0 : f t.text = 0 <;> simp [goW, ZC, h4, h1, h0]
     · simp [goW, ZC, h4]
def valF7 (items : Bool) : List UInt8 → Nat := if items = true then itemL else flagL
def wsR (items : Bool) (ts : List Tok) : Option Nat := (ZC ts).bind (if items = true then itemsO else namesO)
def lsR (items : Bool) (ts : List Tok) : Option Nat := (lnames ts).bind (if items = true then itemsO else ZE)
theorem wsR_go (items : Bool) (ts : List Tok) : wsR items ts = goW (valF7 items) false 0 ts := by
 rw [goW_is]
 unfold wsR
 cases hw : ZC ts with
 | none => rfl
 | some ns =>
   have hne := wnames_ne hw
   cases items with
   | true => simp [valF7, itemsO, foldW, orI, hne]
   | false => simp [valF7, namesO, foldW, orF, allF]
theorem valF7_lt (items : Bool) (x : List UInt8) : valF7 items x < 32 := by
 unfold valF7
 split
 · exact itemU_lt _
 · exact flagL_lt x
def SumPost (o : Option Nat) (w : World) (e : Ending) (w' : World) : Prop :=
 ∃ (s : Nat) (b : Bool), e = .returned (.tuple #[.int .i64 (s : Int), .bool b]) ∧ s < 32 ∧ Hid (o = if b = true then some s else none) ∧ Below w.heap.size w w'
theorem rwords_any (items : Bool) (A : Option Addr) (c : Nat) (ts : List Tok) (hl : ts.length ≤ 10000) (htx : ∀ t ∈ ts, t.kind ≤ 6 ∧ t.text.length ≤ 1000000) (w : World) (hS : SlAt encT 3 w A ts) :
 Calls Tryz.prog 102 #[.slice A ts.length c, .bool items] w (SumPost (wsR items ts) w) := by
 rw [wsR_go]
 have HS := Hi hS
 have HK := Hi htx
 have FL := Hi (fun (x : List UInt8) (hx : x.length ≤ 1000000) W => refFlag7_any ⟨x.toArray⟩ (by show x.toArray.size ≤ _; simp; omega) W)
 have IT := Hi (fun (x : List UInt8) (hx : x.length ≤ 1000000) W => refItem_any ⟨x.toArray⟩ (by show x.toArray.size ≤ _; simp; omega) W)
 obtain ⟨n, hn⟩ : ∃ n, ts.length = n := ⟨_, rfl⟩
 have HN := Hi hn
 rw [hn] at hl ⊢
 obtain ⟨O, hO⟩ : ∃ O, goW (valF7 items) false 0 ts = O := ⟨_, rfl⟩
 rw [hO]
 have HO := Hi hO
 have HVL := Hi (valF7_lt items)
 have HVI : Hid (∀ x, valF7 items x = if items = true then itemL x else flagL x) := Hi (fun x => by unfold valF7; split <;> rfl)
 clear hS htx hn hO
 go_enter Tryz.func102, Tryz.ntmps102
 go_wp2_with fail
 go_loopw [6, 7] (fun s i wr => ∃ k sum : Nat, k ≤ n ∧ sum < 32 ∧ i = .int .i64 (k : Int) ∧ s = .int .i64 (sum : Int) ∧ Hid (O = goW (valF7 items) (decide (k % 2 = 1)) sum (ts.drop k)) ∧ Hid (Below w.heap.size w wr)) (fun _ i _ => n - (intOf i).toNat)
 case atStart => exact ⟨0, 0, Nat.zero_le _, by omega, rfl, rfl, Hi (by rw [← HO.out]; rfl), Hi (Below.refl _ _)⟩
 case round =>
  obtain ⟨k, sum, hk, hs32, rfl, rfl, hG, hB⟩ := hrel
  by_cases hlt : k < n
  · have hkl : k < ts.length := by rw [HN.out]; exact hlt
    obtain ⟨b, off, rfl, hbw, hc0, hc1, _⟩ := tk_at (HS.out.below hB.out) hkl
    have hkt := HK.out _ (List.getElem_mem hkl)
    have hdr : ts.drop k = ts[k] :: ts.drop (k + 1) := List.drop_eq_getElem_cons hkl
    have HD := Hi hdr
    have HV := Hi (HVI.out ts[k].text)
    have HVB := Hi (HVL.out ts[k].text)
    have F1 := FL.out ts[k].text hkt.2
    have I1 := IT.out ts[k].text hkt.2
    have F1 : ∀ W, Calls Tryz.prog 141 #[.string ⟨ts[k].text.toArray⟩] W fun e w' => e = .returned (.int .i64 (flagL ts[k].text : Nat)) ∧ Below W.heap.size W w' := F1
    have I1 : ∀ W, Calls Tryz.prog 142 #[.string ⟨ts[k].text.toArray⟩] W fun e w' => e = .returned (.int .i64 (itemL ts[k].text : Nat)) ∧ Below W.heap.size W w' := I1
    have F1 := Hi F1
    have I1 := Hi I1
    have hk6 := hkt.1
    clear hkt hdr
    generalize ts[k] = t at *
    by_cases hodd : k % 2 = 1
    · have e1 : ((k : Int) % 2 == 1) = true := by simp; omega
      have e2 : (Int.tmod (k : Int) 2 == 1) = true := by rw [Int.tmod_eq_emod_of_nonneg (by omega)]; simp; omega
      by_cases h1 : t.kind = 1
      · have f1 : ((t.kind : Int) != 1) = false := by rw [h1]; rfl
        have f2 : (t.kind : Int) = 1 := by omega
        have HG2 : Hid (O = goW (valF7 items) (decide ((k + 1) % 2 = 1)) sum (ts.drop (k + 1))) := Hi (by
         rw [hG.out, HD.out, decide_eq_true hodd, show decide ((k + 1) % 2 = 1) = false by simp; omega]
         simp [goW, h1])
        clear hG h1 HD f2
        go_wp2_with fail
        go_roundw
        case rel => exact ⟨k + 1, sum, by omega, hs32, by go_num, rfl, HG2, hB⟩
        case measure => simp [intOf]; omega
      · have f2 : ¬ (t.kind : Int) = 1 := by omega
        have f1 : ((t.kind : Int) != 1) = true := by simpa using f2
        have HG2 : Hid (O = none) := Hi (by
         rw [hG.out, HD.out, decide_eq_true hodd]
         simp [goW, h1])
        clear hG h1 HD
        go_wp2_with fail
        refine bodyPost_ret (v := .tuple #[.int .i64 0, .bool false]) (by simp [results, Tryz.results102, go_sem]) rfl ⟨0, false, rfl, by omega, Hi HG2.out, hB.out⟩
    · have e1 : ((k : Int) % 2 == 1) = false := by simp; omega
      have e2 : (Int.tmod (k : Int) 2 == 1) = false := by rw [Int.tmod_eq_emod_of_nonneg (by omega)]; simp; omega
      by_cases h4 : t.kind = 4
      · have f1 : ((t.kind : Int) == 4) = true := by rw [h4]; rfl
        have HG1 : Hid (O = if valF7 items t.text ≠ 0 then goW (valF7 items) (decide ((k + 1) % 2 = 1)) (sum ||| valF7 items t.text) (ts.drop (k + 1)) else none) := Hi (by
         rw [hG.out, HD.out, show decide (k % 2 = 1) = false by simpa using hodd, show decide ((k + 1) % 2 = 1) = true by simp; omega]
         simp [goW, h4])
        clear hG HD h4
        cases items with
        | true =>
          have hv : valF7 true t.text = itemL t.text := by rw [HV.out]; rfl
          rw [hv] at HG1 HVB
          generalize itemL t.text = it at *
          clear hv
          have hi32 := HVB.out
          have hor : sum ||| it < 32 := Nat.or_lt_two_pow (n := 5) hs32 hi32
          have hor2 : bits BinOp.or IntKind.i64 (sum : Int) (it : Int) = ((sum ||| it : Nat) : Int) := i64_or_nat _ _ (by omega) (by omega)
          by_cases h0 : it = 0
          · have g1 : ((it : Int) == 0) = true := by rw [h0]; rfl
            have HG2 : Hid (O = none) := Hi (by rw [HG1.out, if_neg (by simpa using h0)])
            clear hor hor2 HG1
            go_wp2_with fail
            refine (F1.out _).mono ?_
            rintro e w2 ⟨rfl, hb2⟩
            have hx1 := (hb2.cell (p := ⟨b, off + k * 3 + 1, none⟩) hbw).trans hc1
            go_wp2_with fail
            refine (I1.out _).mono ?_
            rintro e w3 ⟨rfl, hb3⟩
            have HB3 := Hi (YA (YA hB.out hb2) hb3)
            clear hb2 hb3
            go_wp2_with fail
            refine bodyPost_ret (v := .tuple #[.int .i64 0, .bool false]) (by simp [results, Tryz.results102, go_sem]) rfl ⟨0, false, rfl, by omega, Hi HG2.out, HB3.out⟩
          · have g1 : ((it : Int) == 0) = false := by simp; omega
            have g2 : ¬ (it : Int) = 0 := by omega
            have HG2 := Hi (show O = _ by rw [HG1.out, if_pos h0])
            clear HG1 h0
            generalize hor3 : sum ||| it = s2 at *
            clear hor3
            go_wp2_with fail
            refine (F1.out _).mono ?_
            rintro e w2 ⟨rfl, hb2⟩
            have hx1 := (hb2.cell (p := ⟨b, off + k * 3 + 1, none⟩) hbw).trans hc1
            go_wp2_with fail
            refine (I1.out _).mono ?_
            rintro e w3 ⟨rfl, hb3⟩
            have HB3 := Hi (YA (YA hB.out hb2) hb3)
            clear hb2 hb3
            go_wp2_with fail
            go_roundw
            case rel => exact ⟨k + 1, s2, by omega, hor, by go_num, rfl, HG2, HB3⟩
            case measure => simp [intOf]; omega
        | false =>
          have hv : valF7 false t.text = flagL t.text := by rw [HV.out]; rfl
          rw [hv] at HG1 HVB
          generalize flagL t.text = it at *
          clear hv
          have hi32 := HVB.out
          have hor : sum ||| it < 32 := Nat.or_lt_two_pow (n := 5) hs32 hi32
          have hor2 : bits BinOp.or IntKind.i64 (sum : Int) (it : Int) = ((sum ||| it : Nat) : Int) := i64_or_nat _ _ (by omega) (by omega)
          by_cases h0 : it = 0
          · have g1 : ((it : Int) == 0) = true := by rw [h0]; rfl
            have HG2 : Hid (O = none) := Hi (by rw [HG1.out, if_neg (by simpa using h0)])
            clear hor hor2 HG1
            go_wp2_with fail
            refine (F1.out _).mono ?_
            rintro e w2 ⟨rfl, hb2⟩
            have HB3 := Hi (YA hB.out hb2)
            clear hb2
            go_wp2_with fail
            refine bodyPost_ret (v := .tuple #[.int .i64 0, .bool false]) (by simp [results, Tryz.results102, go_sem]) rfl ⟨0, false, rfl, by omega, Hi HG2.out, HB3.out⟩
          · have g1 : ((it : Int) == 0) = false := by simp; omega
            have g2 : ¬ (it : Int) = 0 := by omega
            have HG2 := Hi (show O = _ by rw [HG1.out, if_pos h0])
            clear HG1 h0
            generalize hor3 : sum ||| it = s2 at *
            clear hor3
            go_wp2_with fail
            refine (F1.out _).mono ?_
            rintro e w2 ⟨rfl, hb2⟩
            have HB3 := Hi (YA hB.out hb2)
            clear hb2
            go_wp2_with fail
            go_roundw
            case rel => exact ⟨k + 1, s2, by omega, hor, by go_num, rfl, HG2, HB3⟩
            case measure => simp [intOf]; omega
      · have f2 : ¬ (t.kind : Int) = 4 := by omega
        have f1 : ((t.kind : Int) == 4) = false := by simpa using f2
        have HG2 : Hid (O = none) := Hi (by
         rw [hG.out, HD.out, show decide (k % 2 = 1) = false by simpa using hodd]
         simp [goW, h4])
        clear hG HD h4
        go_wp2_with fail
        refine bodyPost_ret (v := .tuple #[.int .i64 0, .bool false]) (by simp [results, Tryz.results102, go_sem]) rfl ⟨0, false, rfl, by omega, Hi HG2.out, hB.out⟩
  · obtain rfl : k = n := by omega
    have HE : Hid (O = if decide (k % 2 = 1) = true then some sum else none) := Hi (by
     have h1 := hG.out
     rw [show ts.drop k = [] by rw [← HN.out, List.drop_length]] at h1
     rw [h1]
     cases decide (k % 2 = 1) <;> rfl)
    have e1 : ((k : Int) % 2 == 1) = decide (k % 2 = 1) := by rw [Bool.eq_iff_iff]; simp; omega
    generalize decide (k % 2 = 1) = q at *
    go_wp2_with fail
    refine bodyPost_ret (v := .tuple #[.int .i64 (sum : Int), .bool q]) (by simp [results, Tryz.results102, go_sem]) rfl ⟨sum, q, rfl, hs32, HE, hB.out⟩
def offT (A : Option Addr) (c lo : Nat) : Option Addr := if c = lo then A else A.map (·.add (lo * 3))
theorem undRT : Tryz.prog.underlying 94 = some (.slice (Tryz.prog.elem 94)) := by kernel_rfl
theorem sizeRT (w : World) : (sizeOf (Tryz.prog.elem 94)).run Tryz.prog w = .ok 3 w := by kernel_rfl
theorem sliceRT_lh (A : Option Addr) (n c lo hi : Nat) (h1 : lo ≤ hi) (h2 : hi ≤ c) (W : World) :
 (Instr.slice 94 (.slice A n c) (some (.int .i64 (lo : Int))) (some (.int .i64 (hi : Int))) none).run Tryz.prog W = .ok (.slice (offT A c lo) (hi - lo) (c - lo)) W := by
 rw [run_slice_lh W _ A n c undRT .i64 .i64 lo hi (by omega) (by omega) (by omega), sizeRT]
 rfl
theorem sliceRT_l (A : Option Addr) (n c lo : Nat) (h1 : lo ≤ n) (W : World) :
 (Instr.slice 94 (.slice A n c) (some (.int .i64 (lo : Int))) none none).run Tryz.prog W = .ok (.slice (offT A c lo) (n - lo) (c - lo)) W := by
 rw [run_slice_l W _ A n c undRT .i64 lo (by omega) (by omega), sizeRT]
 rfl
theorem sliceRT_h (A : Option Addr) (n c hi : Nat) (h1 : hi ≤ c) (W : World) :
 (Instr.slice 94 (.slice A n c) none (some (.int .i64 (hi : Int))) none).run Tryz.prog W = .ok (.slice A hi c) W := by
 rw [run_slice_h W _ A n c undRT .i64 hi (by omega) (by omega), sizeRT]
 have e : (if c = 0 then A else A.map (·.add (0 * 3))) = A := by
  split
  · rfl
  · rcases A with _ | ⟨b, o, s⟩ <;> simp [Addr.add]
 simp only [Result.andThen, sliced, e, Int.toNat_natCast, Nat.sub_zero]
theorem slAt_drop {w : World} {A : Option Addr} {ts : List Tok} {c lo : Nat} (h : SlAt encT 3 w A ts) (hc : ts.length ≤ c) (hlo : lo ≤ ts.length) : SlAt encT 3 w (offT A c lo) (ts.drop lo) := by
 by_cases h0 : lo = ts.length
 · exact .inl (by rw [h0, List.drop_length])
 rcases h with h | ⟨b, off, rfl, hlt, hcl⟩
 · subst h; simp at hlo h0; omega
 · refine .inr ⟨b, off + lo * 3, ?_, hlt, fun j x hj i u hi => ?_⟩
   · unfold offT
     rw [if_neg (by omega)]
     simp [Addr.add]
   · rw [show off + lo * 3 + j * 3 + i = off + (lo + j) * 3 + i by omega]
     exact hcl (lo + j) x (by rw [List.getElem?_drop] at hj; exact hj) i u hi
theorem slAt_take {w : World} {A : Option Addr} {ts : List Tok} {hi : Nat} (h : SlAt encT 3 w A ts) : SlAt encT 3 w A (ts.take hi) := by
 rcases h with h | ⟨b, off, rfl, hlt, hcl⟩
 · exact .inl (by simp [h])
 · refine .inr ⟨b, off, rfl, hlt, fun j x hj i u hi' => hcl j x ?_ i u hi'⟩
   rw [List.getElem?_take] at hj
   split at hj
   · exact hj
   · cases hj
theorem sliceAtRT (x : Value) (lo hi mx : Option Value) (W : World) : (Instr.sliceAt 94 x lo hi mx).run Tryz.prog W = (Instr.slice 94 x lo hi mx).run Tryz.prog W := run_sliceAt_slice W _ _ _ _ _ undRT
theorem lnames_ends (o z : Tok) (m : List Tok) : lnames (o :: (m ++ [z])) = if o.kind = 2 ∧ z.kind = 3 then (if m = [] then some [] else ZC m) else none := by
 simp [lnames]
theorem lsR_mk (items : Bool) (o z : Tok) (m : List Tok) : lsR items (o :: (m ++ [z])) = if o.kind = 2 ∧ z.kind = 3 then (if m = [] then (if items = true then none else some 0) else wsR items m) else none := by
 unfold lsR wsR
 rw [lnames_ends]
 by_cases h : o.kind = 2 ∧ z.kind = 3
 · rw [if_pos h, if_pos h]
   by_cases hm : m = []
   · subst hm
     cases items <;> simp [itemsO, ZE]
   · rw [if_neg hm, if_neg hm]
     cases hw : ZC m with
     | none => rfl
     | some ns =>
       have hne := wnames_ne hw
       cases items <;> simp [ZE, hne]
 · rw [if_neg h, if_neg h]; rfl
theorem lsR_short (items : Bool) {ts : List Tok} (h : ts.length < 2) : lsR items ts = none := by
 rcases ts with _ | ⟨t, _ | ⟨s, r⟩⟩
 · rfl
 · rfl
 · simp at h; omega
theorem wrap_sub (n k : Nat) (h : k ≤ n) (hn : n ≤ 1000000000) : IntKind.i64.wrap ((n : Int) - (k : Int)) = ((n - k : Nat) : Int) := by
 simp only [IntKind.wrap, IntKind.bits, IntKind.signed, Bool.true_and, Int.reducePow, Nat.reduceSub, ge_iff_le, decide_eq_true_eq]
 split <;> omega
theorem rlist_any (items : Bool) (A : Option Addr) (c : Nat) (ts : List Tok) (hl : ts.length ≤ 10000) (hc : ts.length ≤ c) (htx : ∀ t ∈ ts, t.kind ≤ 6 ∧ t.text.length ≤ 1000000) (w : World) (hS : SlAt encT 3 w A ts) :
 Calls Tryz.prog 101 #[.slice A ts.length c, .bool items] w (SumPost (lsR items ts) w) := by
 obtain ⟨O, hO⟩ : ∃ O, lsR items ts = O := ⟨_, rfl⟩
 rw [hO]
 by_cases h2 : ts.length < 2
 · rw [lsR_short items h2] at hO
   have HO := Hi hO
   generalize ts.length = n at *
   have d1 : decide ((n : Int) < 2) = true := by simp; omega
   have d2 : decide (n < 2) = true := by simp; omega
   clear hO hS htx hc h2
   go_enter Tryz.func101, Tryz.ntmps101
   go_wp2_with fail
   refine bodyPost_ret (v := .tuple #[.int .i64 0, .bool false]) (by simp [results, Tryz.results101, go_sem]) rfl ⟨0, false, rfl, by omega, Hi HO.out.symm, Below.refl _ _⟩
 · obtain ⟨o, m, z, rfl⟩ : ∃ o m z, ts = o :: (m ++ [z]) := by
    rcases ts with _ | ⟨o, q⟩
    · simp at h2
    · rcases List.eq_nil_or_concat q with rfl | ⟨m, z, rfl⟩
      · simp at h2
      · exact ⟨o, m, z, by simp⟩
   rw [lsR_mk] at hO
   have HO := Hi hO
   obtain ⟨n, hn⟩ : ∃ n, (o :: (m ++ [z])).length = n := ⟨_, rfl⟩
   have hnm : m.length + 2 = n := by rw [← hn]; simp
   have hd : ((o :: (m ++ [z])).drop 1).take m.length = m := by simp
   have S1 := Hi (slAt_take (hi := m.length) (slAt_drop (c := c) (lo := 1) hS hc (by simp)))
   rw [hd] at S1
   obtain ⟨b, off, rfl, hbw, hc0, _, _⟩ := tk_at hS (j := 0) (by simp)
   obtain ⟨b', off', he, _, hd0, _, _⟩ := tk_at hS (j := m.length + 1) (by simp)
   cases he
   have eo : (o :: (m ++ [z]))[0] = o := rfl
   have ez : (o :: (m ++ [z]))[m.length + 1]'(by simp) = z := by simp
   rw [eo] at hc0
   rw [ez] at hd0
   rw [Nat.zero_mul, Nat.add_zero] at hc0
   obtain ⟨A2, hA2⟩ : ∃ A2, offT (some ⟨b, off, none⟩) c 1 = A2 := ⟨_, rfl⟩
   rw [hA2] at S1
   have HX := Hi (show ∀ t ∈ m, t.kind ≤ 6 ∧ t.text.length ≤ 1000000 from fun t ht => htx t (by simp [ht]))
   have hnz : n - 1 = m.length + 1 := by omega
   have WD := Hi (fun (W : World) (h : SlAt encT 3 W A2 m) => rwords_any items A2 (c - 1) m (by omega) HX.out W h)
   have s0 := fun x lo hi mx W => sliceAtRT x lo hi mx W
   have s1 : ∀ W, (Instr.slice 94 (.slice (some ⟨b, off, none⟩) n c) (some (.int .i64 1)) (some (.int .i64 ((m.length + 1 : Nat) : Int))) none).run Tryz.prog W = .ok (.slice A2 m.length (c - 1)) W := fun W => by
    have h := sliceRT_lh (some ⟨b, off, none⟩) n c 1 (m.length + 1) (by omega) (by omega) W
    rw [hA2] at h
    exact h
   have hw1 : IntKind.i64.wrap ((n : Int) - 1) = ((m.length + 1 : Nat) : Int) := by rw [← hnz]; exact wrap_sub n 1 (by omega) (by omega)
   have d1 : decide ((n : Int) < 2) = false := by simp; omega
   have d2 : decide (n < 2) = false := by simp; omega
   have hm0 : m = [] ↔ n = 2 := by
    rw [← List.length_eq_zero_iff]; omega
   have HM0 := Hi hm0
   have hn0 : 0 < n := by omega
   rw [hn]
   clear hm0 hO hS htx HX hd eo ez h2 hA2
   obtain ⟨n1, hn1⟩ : ∃ n1, m.length + 1 = n1 := ⟨_, rfl⟩
   have hlt1 : n1 < n := by omega
   rw [hn1] at hd0 s1 hw1
   clear hn hl hc hnz
   by_cases hok : o.kind = 2
   · have f1 : ((o.kind : Int) != 2) = false := by rw [hok]; rfl
     by_cases hz3 : z.kind = 3
     · have f2 : ((z.kind : Int) != 3) = false := by rw [hz3]; rfl
       have HO1 : Hid ((if m = [] then (if items = true then none else some 0) else wsR items m) = O) := Hi (by rw [← HO.out]; exact (if_pos ⟨hok, hz3⟩).symm)
       clear HO hok hz3
       generalize o.kind = ko at *
       generalize z.kind = kz at *
       by_cases hn2 : n = 2
       · have g1 : ((n : Int) == 2) = true := by rw [hn2]; rfl
         have HO2 : Hid (O = if items = true then none else some 0) := Hi (by rw [← HO1.out, if_pos (HM0.out.2 hn2)])
         clear hn2 HO1 WD s1 hnm hn1
         go_enter Tryz.func101, Tryz.ntmps101
         go_wp2_with fail
         refine bodyPost_ret (v := .tuple #[.int .i64 0, .bool (!items)]) (by simp [results, Tryz.results101, go_sem]) rfl ⟨0, !items, rfl, by omega, Hi (by rw [HO2.out]; cases items <;> rfl), Below.refl _ _⟩
       · have g1 : ((n : Int) == 2) = false := by simp; omega
         have g2 : ¬ (n : Int) = 2 := by omega
         have HO2 : Hid (wsR items m = O) := Hi (by rw [← HO1.out, if_neg (fun h => hn2 (HM0.out.1 h))])
         have hnn : n = m.length + 2 := hnm.symm
         clear hn2 HO1 hnm hn1 hnn
         go_enter Tryz.func101, Tryz.ntmps101
         go_wp2_with fail
         refine (WD.out _ S1.out).mono ?_
         rintro e w1 ⟨s, q, rfl, hs32, hq, hb1⟩
         rw [HO2.out] at hq
         clear WD HO2 S1
         go_wp2_with fail
         refine bodyPost_ret (v := .tuple #[.int .i64 (s : Int), .bool q]) (by simp [results, Tryz.results101, go_sem]) rfl ⟨s, q, rfl, hs32, hq, hb1⟩
     · have f2 : ((z.kind : Int) != 3) = true := by simp; omega
       have HO1 : Hid (O = none) := Hi (by rw [← HO.out]; exact if_neg (fun h => hz3 h.2))
       clear HO hok hz3 WD s1 hnm hn1
       generalize o.kind = ko at *
       generalize z.kind = kz at *
       go_enter Tryz.func101, Tryz.ntmps101
       go_wp2_with fail
       refine bodyPost_ret (v := .tuple #[.int .i64 0, .bool false]) (by simp [results, Tryz.results101, go_sem]) rfl ⟨0, false, rfl, by omega, Hi HO1.out, Below.refl _ _⟩
   · have f1 : ((o.kind : Int) != 2) = true := by simp; omega
     have HO1 : Hid (O = none) := Hi (by rw [← HO.out]; exact if_neg (fun h => hok h.1))
     clear HO hok WD s1 hnm hn1
     generalize o.kind = ko at *
     generalize z.kind = kz at *
     go_enter Tryz.func101, Tryz.ntmps101
     go_wp2_with fail
     refine bodyPost_ret (v := .tuple #[.int .i64 0, .bool false]) (by simp [results, Tryz.results101, go_sem]) rfl ⟨0, false, rfl, by omega, Hi HO1.out, Below.refl _ _⟩
theorem isSuffixOf_drop (p l : List UInt8) : p.isSuffixOf l = (decide (p.length ≤ l.length) && l.drop (l.length - p.length) == p) := by
 rw [Bool.eq_iff_iff, List.isSuffixOf_iff_suffix]
 constructor
 · rintro ⟨q, rfl⟩
   simp
 · intro h
   simp only [Bool.and_eq_true, decide_eq_true_eq, beq_iff_eq] at h
   exact ⟨l.take (l.length - p.length), by rw [← h.2, List.length_drop]; rw [show l.length - (l.length - (l.length - p.length)) = l.length - p.length by omega]; exact List.take_append_drop _ _⟩
def silent7 (u : List UInt8) : Bool := decide (7 < u.length) && (u.drop (u.length - 7) == silB)
theorem modeL_is (x : List UInt8) : modeL x = if silent7 (upL x) = true then (modeU ((upL x).take ((upL x).length - 7))).map (·, true) else (modeU (upL x)).map (·, false) := by
 unfold modeL cutS silent7 Lib.trimSuffix Lib.hasSuffix
 rw [isSuffixOf_drop]
 have e7 : silB.length = 7 := rfl
 rw [e7]
 generalize upL x = u
 by_cases h7 : 7 < u.length
 · have h8 : decide (7 ≤ u.length) = true := by simp; omega
   have h9 : decide (7 < u.length) = true := by simpa using h7
   rw [h8, h9]
   cases u.drop (u.length - 7) == silB <;> simp
 · have h9 : decide (7 < u.length) = false := by simpa using h7
   rw [h9]
   by_cases h6 : u.length = 7
   · rw [h6]
     simp only [Nat.le_refl, decide_true, Bool.true_and, Nat.sub_self, List.drop_zero, Bool.false_and, Bool.false_eq_true, if_false]
     by_cases hs : u = silB
     · subst hs; rfl
     · have : (u == silB) = false := by simpa using hs
       rw [this]; simp
   · have h8 : decide (7 ≤ u.length) = false := by simp; omega
     rw [h8]; simp
def modeZ (o : Option (Nat × Bool)) : Value := match o with
 | some p => .tuple #[.int .i64 (p.1 : Int), .bool p.2]
 | none => .tuple #[.int .i64 (-1), .bool false]
theorem modeU_cases (l : List UInt8) : (l = [70, 76, 65, 71, 83] ∧ modeU l = some 0) ∨ (l = [43, 70, 76, 65, 71, 83] ∧ modeU l = some 1) ∨ (l = [45, 70, 76, 65, 71, 83] ∧ modeU l = some 2) ∨ (modeU l = none ∧ l ≠ [70, 76, 65, 71, 83] ∧ l ≠ [43, 70, 76, 65, 71, 83] ∧ l ≠ [45, 70, 76, 65, 71, 83]) := by
 unfold modeU
 by_cases h1 : l = [70, 76, 65, 71, 83]
 · exact .inl ⟨h1, by rw [if_pos h1]⟩
 · by_cases h2 : l = [43, 70, 76, 65, 71, 83]
   · exact .inr (.inl ⟨h2, by rw [if_neg h1, if_pos h2]⟩)
   · by_cases h3 : l = [45, 70, 76, 65, 71, 83]
     · exact .inr (.inr (.inl ⟨h3, by rw [if_neg h1, if_neg h2, if_pos h3]⟩))
     · exact .inr (.inr (.inr ⟨by rw [if_neg h1, if_neg h2, if_neg h3], h1, h2, h3⟩))
end Go.Proofs.YtpgfnlhfciacoaaGreatDoor
