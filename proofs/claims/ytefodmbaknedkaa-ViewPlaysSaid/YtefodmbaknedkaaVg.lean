/- slices.Sort of numbers. -/
import Derived.Test.YtefodmbaknedkaaSoS
import Derived.Test.YtefodmbaknedkaaVa
import Derived.Lib.LazyBuf
namespace Go.Proofs.Ytefodmbaknedkaa
open Go.RowKit

theorem len_any (n : Nat) (hn : n ≤ 1000000000) (w : World) : Calls Try.prog 45 #[.int .u64 (n : Int)] w fun e w' => e = .returned (.int .i64 (Sort.bitsLen n : Nat)) ∧ w = w' := by
  have h := Any.bits_Len (SlLaysF0.n15.bits (P := Try.prog) (ρ := Try.laysLen_ren) { Try.laysLen with }) (n : Int) w (by omega) (by omega)
  rw [Int.toNat_natCast, bitLen_eq _ (by omega)] at h
  change Calls Try.prog 45 _ _ _ at h
  exact h.mono fun e w' ⟨h1, h2⟩ => ⟨h1, h2.symm⟩

theorem insertNone (A : Option Addr) (c : Nat) (w : World) :
    Calls Try.prog 50 #[.slice A 0 c, .int .i64 0, .int .i64 0] w fun e w' => e = .returned (.tuple #[]) ∧ w' = w := by
  go_enter Try.func50, Try.ntmps50
  go_wp2
  refine wp_loop_rounds 1 ?_
  rw [rounds_succ]
  go_wp2
  go_end0
  exact ⟨rfl, rfl⟩
set_option maxRecDepth 100000 in
theorem pdqNone (A : Option Addr) (c : Nat) (w : World) :
    Calls Try.prog 44 #[.slice A 0 c, .int .i64 0, .int .i64 0, .int .i64 0] w fun e w' => e = .returned (.tuple #[]) ∧ w' = w := by
  go_enter Try.func44, Try.ntmps44
  go_wp2
  refine wp_loop_rounds 1 ?_
  rw [rounds_succ]
  go_wp2_with fail
  refine (insertNone _ _ _).mono ?_
  rintro e w' ⟨rfl, rfl⟩
  go_wp2
  refine bodyPost_ret (results_none rfl _ _ _) rfl ?_
  exact ⟨rfl, rfl⟩

/-- A row of one's own, as the sort's functions take it. -/
theorem rw_own {w : World} {base : Nat} {e : TypeId} {g cap : Nat} {l : List Nat} (h : w.ownsRow base e 1 (.slice (some ⟨g, 0, none⟩) l.length cap) l.length (flatL encU l)) (hg : g < w.heap.size) : Rw w g 0 l.length l.toArray w := by
  have H : Sort.Holds encN w g 0 l.toArray := by
    intro j hj
    have hj' : j < l.length := by simpa using hj
    refine ⟨?_, by rw [Nat.zero_add]; exact h.frozenAt j⟩
    rw [Nat.zero_add, h.cellAt j (by omega)]
    have := flatL_at encU_len l j l[j] (List.getElem?_eq_getElem hj') 0 _ rfl
    rw [show j * 1 + 0 = j by omega] at this
    rw [this, getElem!_pos _ j (by simpa using hj')]
    simp [encN]
  exact ⟨SW.start H, by simp, hg, l.toArray, by simp, H⟩
theorem Rw.grown {w W : World} {g n : Nat} {d : Array Nat} (h : Rw w g 0 n d W) : w.grownBy W (some g) := by
  obtain ⟨m, os, rfl⟩ := h.sw
  refine ⟨rfl, rfl, rfl, ?_, fun k hk hne => ?_⟩
  · simp [sortWorld, Sort.grow, Sort.putRow, Sort.mapBlock, Sort.ahead]
  · have hn : ¬ g = k := fun e => hne (by rw [e])
    show ((w.heap.modify g _) ++ os)[k]? = w.heap[k]?
    rw [Array.getElem?_append_left (by simp; omega), Array.getElem?_modify, if_neg hn]
theorem Rw.slAt {w W : World} {g n : Nat} {d : Array Nat} (h : Rw w g 0 n d W) : SlAt encU 1 W (some ⟨g, 0, none⟩) d.toList := by
  refine .inr ⟨g, 0, rfl, Nat.lt_of_lt_of_le h.lt h.sw.le, fun j x hj i v hi => ?_⟩
  obtain rfl : i = 0 := by
    have := (List.getElem?_eq_some_iff.1 hi).1
    simpa [encU] using this
  have hjl : j < d.size := by simpa using (List.getElem?_eq_some_iff.1 hj).1
  have hx : d[j]! = x := by
    rw [getElem!_pos d j hjl]
    have := (List.getElem?_eq_some_iff.1 hj).2
    simpa using this
  have := (h.holds j hjl).1
  rw [hx] at this
  obtain rfl : v = .int .u32 (x : Int) := by simpa [encU] using hi.symm
  rw [show 0 + j * 1 + 0 = 0 + j by omega]
  exact this

theorem asc_list {d : Array Nat} (h : Sort.SortedIn ltN 0 d.size d) : d.toList.Pairwise (· ≤ ·) := by
  rw [List.pairwise_iff_getElem]
  intro i j hi hj hij
  have := h i j (Nat.zero_le _) hij (by simpa using hj)
  rw [getElem!_pos d i (by simpa using hi), getElem!_pos d j (by simpa using hj)] at this
  simpa [ltN] using this
theorem perm_list {d d' : Array Nat} (h : Sort.PermIn 0 d.size d d') : d'.toList.Perm d.toList := by
  have h2 := h.2.2
  have h1 := h.1
  have e : d'.extract 0 d.size = d' := by rw [← h1]; simp
  have e2 : d.extract 0 d.size = d := by simp
  rw [e, e2] at h2
  exact h2

set_option maxRecDepth 100000 in
theorem sort_any (B : Nat) (v : Value) (l : List Nat) (hl : l.length ≤ 1000000000) (w : World) (hB : B ≤ w.heap.size) (hown : w.ownsRow B 35 1 v l.length (flatL encU l)) :
    Calls Try.prog 38 #[v] w fun e w' => e = .returned (.tuple #[]) ∧ (∃ l' A c, v = .slice A l.length c ∧ l'.Perm l ∧ l'.Pairwise (· ≤ ·) ∧ SlAt encU 1 w' A l') ∧ Below B w w' := by
  obtain ⟨A, c, rfl⟩ := own_any hown
  have HL := fun W => Lib.hid (len_any l.length hl W)
  rcases A with _ | ad
  · obtain rfl : l = [] := by
      rcases hown.2 with ⟨_, h⟩ | ⟨g, cap, cur, h, _⟩
      · exact List.eq_nil_of_length_eq_zero h
      · cases h
    have PN := Lib.hid (pdqNone none c w)
    have e0 : ((Sort.bitsLen ([] : List Nat).length : Nat) : Int) = 0 := rfl
    rw [e0] at HL
    clear hl hown e0
    go_enter Try.func38, Try.ntmps38
    go_wp2_with fail
    refine (HL _).out.mono ?_
    rintro e w1 ⟨rfl, rfl⟩
    go_wp2_with fail
    refine PN.out.mono ?_
    rintro e w1 ⟨rfl, rfl⟩
    go_wp2_with fail
    go_end0
    exact ⟨rfl, ⟨[], none, c, rfl, List.Perm.refl _, List.Pairwise.nil, .inl rfl⟩, Below.refl _ _⟩
  · obtain ⟨g, hg, hgl, hgB⟩ : ∃ g, ad = ⟨g, 0, none⟩ ∧ g < w.heap.size ∧ B ≤ g := by
      rcases hown.2 with ⟨h, _⟩ | ⟨g, cap, cur, h, hb, hh, _⟩
      · cases h
      · injection h with h
        injection h with h
        exact ⟨g, h, (Array.getElem?_eq_some_iff.1 hh).1, hb⟩
    subst hg
    have R := rw_own hown hgl
    have hk : Sort.bitsLen l.length ≤ 100 := Nat.le_trans ((Sort.bitsLen_le_iff _ 62).2 (by omega)) (by omega)
    have PQ := Lib.hid (pdq_any c hl (fs_any w g 0 l.length c hl) (l.length + 1) 0 l.length (Sort.bitsLen l.length) l.toArray w (by omega) (Nat.zero_le _) (Nat.le_refl _) hk (.inl rfl) R)
    clear R hown
    generalize Sort.bitsLen l.length = bl at *
    go_enter Try.func38, Try.ntmps38
    go_wp2_with fail
    refine (HL _).out.mono ?_
    rintro e w1 ⟨rfl, rfl⟩
    go_wp2_with fail
    refine PQ.out.mono ?_
    rintro e w1 ⟨rfl, D, hp, hs, hr⟩
    have HP := Lib.hid hp
    have HS := Lib.hid hs
    clear hp hs PQ HL
    go_wp2_with fail
    go_end0
    have hz : l.toArray.size = D.size := by rw [hr.out.sz]; simp
    have h1 := perm_list (d := l.toArray) (d' := D) (by simpa using HP.out)
    have h2 := asc_list (d := D) (by rw [hr.out.sz]; exact HS.out)
    exact ⟨rfl, ⟨D.toList, _, c, rfl, by simpa using h1, h2, hr.out.slAt⟩, ⟨hr.out.grown.os, hr.out.grown.tape, hr.out.grown.output, hr.out.grown.size, fun k hkB => hr.out.grown.block k (by omega) (fun e => by injection e; omega)⟩⟩
end Go.Proofs.Ytefodmbaknedkaa

namespace Go.Proofs.Ytefodmbaknedkaa
open Go.RowKit

theorem clone_any (A : Option Addr) (c : Nat) (l : List Nat) (hl : l.length ≤ 1000000) (w : World) (hS : SlAt encU 1 w A l) :
    Calls Try.prog 37 #[.slice A l.length c] w fun e w' => ∃ v, e = .returned v ∧ w'.ownsRow w.heap.size 35 1 v l.length (flatL encU l) ∧ Below w.heap.size w w' := by
  obtain ⟨i0, hi, hz0, hz1, hz2⟩ := info_parts infoU
  have q22 := fun (w : World) (a : Option Addr) (l c : Nat) => run_eql_slice_nil (P := Try.prog) w 22 35 a l c Try.underlying22
  rcases A with _ | ad
  · obtain rfl : l = [] := by
      rcases hS with h | ⟨b, off, hA, _⟩
      · exact h
      · cases hA
    clear hS hl
    go_enter Try.func37, Try.ntmps37
    go_wp2_with fail
    go_ret
    exact ⟨_, rfl, World.ownsRow_nil _ _ _ _, Below.refl _ _⟩
  · have HS := Lib.hid (hS.below (below_al w (.cells #[] 35)))
    have HOE := Lib.hid (own_empty (sz := 1) (heap_alloc_new w (.cells #[] 35)) (Nat.le_refl _))
    have H63 := Lib.hid (show 0 + l.length ≤ maxLen by unfold maxLen; omega)
    have HBY := Lib.hid (show (0 + l.length) * 4 ≤ 140737488355328 by omega)
    have HB0 := Lib.hid (below_al w (.cells #[] 35))
    have HSZ := Lib.hid HB0.out.size
    clear hS hl
    go_enter Try.func37, Try.ntmps37
    go_wp2_with (at_builtin; refine wpList_append_sl _ rfl _ _ 22 rfl w.heap.size 35 i0 _ 4 Try.underlying22 hi hz0 hz1 hz2 rfl (by decide) _ 0 [] rfl HOE.out (some ad) l c rfl encU_len HS.out (one_flatU l) H63.out HBY.out HSZ.out ?_; intro v2 w2 hown2 hg2)
    rw [Nat.zero_add, List.nil_append] at hown2
    obtain ⟨A2, c2, rfl⟩ := own_any hown2
    have HB2 := Lib.hid (HB0.out.grown hg2 HSZ.out (fun kk hkk => (HOE.out.lt kk hkk).1))
    have HO := Lib.hid hown2
    clear hown2 hg2
    go_wp2_with fail
    go_ret
    exact ⟨_, rfl, HO.out, HB2.out⟩
end Go.Proofs.Ytefodmbaknedkaa
