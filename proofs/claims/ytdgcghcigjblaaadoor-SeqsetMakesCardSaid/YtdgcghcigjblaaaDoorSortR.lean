/- slices.SortFunc of ranges by Lo. -/
import Derived.Test.YtdgcghcigjblaaaDoorCmpU
import Derived.Test.YtdgcghcigjblaaaDoorShelf
import Derived.Test.YtdgcghcigjblaaaDoorSl
namespace Go.Proofs.YtdgcghcigjblaaaDoor
open Go.RowKit Go.Sort
open Go.Shelf

theorem flatL_get {l : List R} {t : Nat} (ht : t < l.length * 2) : (flatL encR l)[t]? = some (encR l[t / 2]!)[t % 2]! := by
  have h1 : t / 2 < l.length := by omega
  have e := flatL_at encR_len l (t / 2) l[t / 2] (List.getElem?_eq_getElem h1) (t % 2) ((encR l[t / 2]!)[t % 2]!) (by
    rw [getElem!_pos l _ h1]
    have : t % 2 = 0 ∨ t % 2 = 1 := by omega
    rcases this with h | h <;> simp [h, encR])
  rwa [show t / 2 * 2 + t % 2 = t by omega] at e

theorem holdsK_own {w : World} {base : Nat} {e : TypeId} {g cap : Nat} {l : List R} (h : w.ownsRow base e 2 (.slice (some ⟨g, 0, none⟩) l.length cap) l.length (flatL encR l)) : HoldsK encR 2 w g 0 l.toArray := by
  intro j hj
  rw [size_flatK, List.size_toArray] at hj
  refine ⟨?_, by rw [Nat.zero_add]; exact h.frozenAt j⟩
  rw [Nat.zero_add, h.cellAt j hj, flatL_get hj, get_flatK _ _ _ _ (by rw [List.size_toArray]; exact hj)]
  simp

theorem grown_sortWorldK {blk : Nat} {w : World} (m : Nat) (d : Array R) (os : Array Obj) : w.grownBy (sortWorldK encR 2 w blk 0 m d os) (some blk) := by
  refine ⟨rfl, rfl, rfl, ?_, fun k hk hne => ?_⟩
  · simp [sortWorldK, Sort.grow, putRowK, putRow, mapBlock, Sort.ahead]
  · have hn : ¬ blk = k := fun e => hne (by rw [e])
    show ((w.heap.modify blk _) ++ os)[k]? = w.heap[k]?
    rw [Array.getElem?_append_left (by simp; omega), Array.getElem?_modify, if_neg hn]

theorem slAt_holdsK {w : World} {g : Nat} {d : Array R} (h : HoldsK encR 2 w g 0 d) (hg : g < w.heap.size) : SlAt encR 2 w (some ⟨g, 0, none⟩) d.toList := by
  refine .inr ⟨g, 0, rfl, hg, fun j x hj i v hi => ?_⟩
  have hi2 : i < 2 := (List.getElem?_eq_some_iff.1 hi).1
  have hjl : j < d.size := by simpa using (List.getElem?_eq_some_iff.1 hj).1
  have hx : d[j]! = x := by
    rw [getElem!_pos d j hjl]
    have := (List.getElem?_eq_some_iff.1 hj).2
    simpa using this
  rw [(h.cell hjl hi2).1, hx]
  have := (List.getElem?_eq_some_iff.1 hi)
  obtain ⟨h1, h2⟩ := this
  rw [getElem!_pos (encR x) i h1, h2]

theorem enters_join1 : ∀ args w, (callFunc 47 args).run Tryd.prog w = .ok (.enter 47 args) w := enters_of Tryd.func47 (by kernel_rfl) rfl

theorem sorted_list {d : Array R} (h : SortedIn (ltOf cmpLo) 0 d.size d) : d.toList.Pairwise (fun a b => a.1 ≤ b.1) := by
  rw [List.pairwise_iff_getElem]
  intro i j hi hj hij
  have := h i j (Nat.zero_le _) hij (by simpa using hj)
  rw [ltLo, getElem!_pos d i (by simpa using hi), getElem!_pos d j (by simpa using hj)] at this
  simpa using this
theorem perm_list {d d' : Array R} (h : PermIn 0 d.size d d') : d'.toList.Perm d.toList := by
  have h2 := h.2.2
  have h1 := h.1
  have e : d'.extract 0 d.size = d' := by rw [← h1]; simp
  have e2 : d.extract 0 d.size = d := by simp
  rw [e, e2] at h2
  exact h2

theorem sortR_any {base : Nat} {e : TypeId} (blk cap : Nat) (l : List R) (w : World) (hlen : l.length ≤ 1000000000) (hblk : blk < w.heap.size)
    (hown : w.ownsRow base e 2 (.slice (some ⟨blk, 0, none⟩) l.length cap) l.length (flatL encR l)) :
    Calls Tryd.prog 46 #[.slice (some ⟨blk, 0, none⟩) l.length cap, .func (.func 47) #[] #[]] w fun e w' =>
      e = .returned (.tuple #[]) ∧ ∃ l' : List R, l'.Perm l ∧ l'.Pairwise (fun a b => a.1 ≤ b.1) ∧ SlAt encR 2 w' (some ⟨blk, 0, none⟩) l' ∧ w.grownBy w' (some blk) := by
  have hH := holdsK_own hown
  have hcon := AnyQ.slices_SortFunc Tryd.laysSort 2 Tryd.isAgg32 Tryd.sizeOf32 encR encR_len encR_one cmpLo swoLo 47 #[] blk 0 cap l.toArray w enters_join1 (cmpLays blk 0 l.toArray.size w) hH hblk (by simp; omega)
  change Calls Tryd.prog 46 _ _ _ at hcon
  refine hcon.mono ?_
  rintro e w' ⟨he, d', n, os, hp, hs, rfl⟩
  have hsz : d'.size = l.toArray.size := hp.1
  refine ⟨he, d'.toList, by simpa using perm_list hp, ?_, ?_, grown_sortWorldK _ _ _⟩
  · rw [← hsz] at hs
    exact sorted_list hs
  · refine slAt_holdsK (holdsK_sortWorldK_c encR 2 w blk 0 l.toArray d' n os hH hblk hsz) ?_
    have := (grown_sortWorldK (w := w) (blk := blk) n d' os).size
    omega

theorem bitsLen0 (w : World) : Calls Tryd.prog 57 #[.int .u64 0] w fun e w' => e = .returned (.int .i64 0) ∧ w' = w := by
  have h := Any.bits_Len (SlLaysF0.n15.bits (P := Tryd.prog) (ρ := Tryd.laysSort_ren) { Tryd.laysSort with }) 0 w (by omega) (by omega)
  exact h

theorem insertNone (A : Option Addr) (c : Nat) (w : World) :
    Calls Tryd.prog 63 #[.slice A 0 c, .int .i64 0, .int .i64 0, .func (.func 47) #[] #[]] w fun e w' => e = .returned (.tuple #[]) ∧ w' = w := by
  go_enter Tryd.func63, Tryd.ntmps63
  go_wp2
  refine wp_loop_rounds 1 ?_
  rw [rounds_succ]
  go_wp2
  go_end0
  exact ⟨rfl, rfl⟩

set_option maxRecDepth 100000 in
theorem pdqNone (A : Option Addr) (c : Nat) (w : World) :
    Calls Tryd.prog 56 #[.slice A 0 c, .int .i64 0, .int .i64 0, .int .i64 0, .func (.func 47) #[] #[]] w fun e w' => e = .returned (.tuple #[]) ∧ w' = w := by
  go_enter Tryd.func56, Tryd.ntmps56
  go_wp2
  refine wp_loop_rounds 1 ?_
  rw [rounds_succ]
  go_wp2_with fail
  refine (insertNone _ _ _).mono ?_
  rintro e w' ⟨rfl, rfl⟩
  go_wp2
  refine bodyPost_ret (results_none rfl _ _ _) rfl ?_
  exact ⟨rfl, rfl⟩

theorem sortNone (A : Option Addr) (c : Nat) (w : World) :
    Calls Tryd.prog 46 #[.slice A 0 c, .func (.func 47) #[] #[]] w fun e w' => e = .returned (.tuple #[]) ∧ w = w' := by
  go_enter Tryd.func46, Tryd.ntmps46
  go_wp2_with fail
  refine (bitsLen0 _).mono ?_
  rintro e w' ⟨rfl, rfl⟩
  go_wp2_with fail
  refine (pdqNone _ _ _).mono ?_
  rintro e w' ⟨rfl, rfl⟩
  go_wp2
  go_end0
  exact ⟨rfl, rfl⟩
end Go.Proofs.YtdgcghcigjblaaaDoor
