/- reply: the first word of some that is there. -/
import Derived.Test.YtpoejnajnaolpaaGreatDoorRpRd
import Derived.Laws.EntriesVeiled
namespace Go.Proofs.YtpoejnajnaolpaaGreatDoor
open Go.RowKit

/-- A word, the kind that it tells, what reads on. -/
structure Ch where
  word : List UInt8
  kind : Int
  f : FuncId
def encCh (bp : Nat) (x : Ch) : List Value := [.string ⟨x.word.toArray⟩, .int .i64 x.kind, .func (Fn.func x.f) #[.pointer (some ⟨bp, 0, none⟩)] #[]]
theorem encCh_len (bp : Nat) (x : Ch) : (encCh bp x).length = 3 := rfl
/-- The choices lie in block g. -/
def ChAt (bp g : Nat) (cs : List Ch) (w : World) : Prop := ∀ j x, cs[j]? = some x → ∀ i v, (encCh bp x)[i]? = some v → w.cell? ⟨g, j * 3 + i, none⟩ = some v
theorem ChAt.same {bp g : Nat} {cs : List Ch} {w w' : World} (h : ChAt bp g cs w) (e : w'.heap[g]? = w.heap[g]?) : ChAt bp g cs w' := fun j x hj i v hi => (World.cell?_of_block e).trans (h j x hj i v hi)
theorem chAt_of {bp g : Nat} {cs : List Ch} {w : World} {T : TypeId} (h : w.heap[g]? = some (.cells (flatL (encCh bp) cs).toArray T (0, 0))) : ChAt bp g cs w := fun j x hj i v hi => by
  rw [cell_of_row w g (j * 3 + i) _ _ _ h, List.getElem?_toArray]
  exact flatL_at (encCh_len bp) cs j x hj i v hi
theorem find_at {α : Type} {p : α → Bool} {l : List α} {k : Nat} (hk : k < l.length) (ha : ∀ x ∈ l.take k, p x = false) (hp : p l[k] = true) : l.find? p = some l[k] := by
  conv => lhs; rw [← List.take_append_drop k l]
  rw [List.find?_append, List.find?_eq_none.2 (fun x hx => by rw [ha x hx]; decide), List.drop_eq_getElem_cons hk, List.find?_cons_of_pos hp]
  rfl
theorem take_snocF {α : Type} {p : α → Bool} {l : List α} {k : Nat} (hk : k < l.length) (ha : ∀ x ∈ l.take k, p x = false) (hp : p l[k] = false) : ∀ x ∈ l.take (k + 1), p x = false := by
  intro x hx
  rw [List.take_succ_eq_append_getElem hk, List.mem_append] at hx
  rcases hx with hx | hx
  · exact ha x hx
  · obtain rfl := List.mem_singleton.1 hx
    exact hp
/-- What choose returns. -/
def ChPost (bb bp : Nat) (cs : List Ch) (l : List UInt8) (r : RI) (Ab : Option Addr) (kb : Nat) (wh : Bool) (e : Ending) (w' : World) : Prop :=
  (∃ x, cs.find? (fun x => x.word.isPrefixOf l) = some x ∧ e = .returned (.func (Fn.func x.f) #[.pointer (some ⟨bp, 0, none⟩)] #[]) ∧ ∃ A' c', Hid (Rp bb bp A' c' (l.drop x.word.length) { r with kind := x.kind } Ab kb wh w')) ∨
  (cs.find? (fun x => x.word.isPrefixOf l) = none ∧ e = .returned .nilFunc ∧ ∃ A' c', Hid (Rp bb bp A' c' l r Ab kb wh w'))

set_option maxRecDepth 100000 in
set_option maxHeartbeats 4000000 in
theorem choose_any (cs : List Ch) (n g bb bp c kb : Nat) (A Ab : Option Addr) (l : List UInt8) (r : RI) (wh : Bool) (hn : cs.length = n) (hn9 : n ≤ 100) (w : World) (h : Rp bb bp A c l r Ab kb wh w) (hg : g < w.heap.size) (hg1 : g ≠ bb) (hg2 : g ≠ bp) (hc : ChAt bp g cs w) :
    Calls Tryz.prog 37 #[.pointer (some ⟨bp, 0, none⟩), .slice (some ⟨g, 0, none⟩) n n] w fun e w' => ChPost bb bp cs l r Ab kb wh e w' ∧ Rk bb bp w w' := by
  have HN := Lib.hid hn
  have HC := Lib.hid hc
  have HR0 := Lib.hid h
  have HG := Lib.hid hg
  have HG1 := Lib.hid hg1
  have HG2 := Lib.hid hg2
  clear h hc hn hg hg1 hg2
  go_enter Tryz.func37, Tryz.ntmps37
  go_wp2_with fail
  go_loopw [9] (fun i wr => ∃ (k : Nat) (A' : Option Addr) (c' : Nat), k ≤ n ∧ i = .int .i64 (k : Int) ∧ Hid (∀ x ∈ cs.take k, x.word.isPrefixOf l = false) ∧ Hid (Rp bb bp A' c' l r Ab kb wh wr) ∧ Hid (Rk bb bp w wr)) (fun i _ => n - (intOf i).toNat)
  case atStart => exact ⟨0, A, c, Nat.zero_le _, rfl, Lib.hid (by simp), HR0, Lib.hid (Rk.refl _ _ _)⟩
  case round =>
    obtain ⟨k, A', c', hk, rfl, hD, hR, hK⟩ := hrel
    by_cases hlt : k < n
    · have hlx : k < cs.length := by rw [HN.out]; exact hlt
      have hC := HC.out.same (hK.out.block g HG.out HG1.out HG2.out)
      have c0 := hC k _ (List.getElem?_eq_getElem hlx) 0 _ rfl
      have c1 := hC k _ (List.getElem?_eq_getElem hlx) 1 _ rfl
      have c2 := hC k _ (List.getElem?_eq_getElem hlx) 2 _ rfl
      rw [Nat.add_zero] at c0
      have hk0 : (0 : Int) ≤ (k : Int) := by omega
      have hk1 : (k : Int) < (n : Int) := by omega
      have BX := below_al wr (.cells (encCh bp cs[k]).toArray 68)
      have HNW := heap_alloc_new wr (.cells (encCh bp cs[k]).toArray 68)
      have PS := Lib.hid (pass_any bb bp c' kb A' Ab l cs[k].word r wh (wr.alloc (.cells (encCh bp cs[k]).toArray 68)) (hR.out.grow BX))
      have HNO := Lib.hid (fun (e : cs[k].word.isPrefixOf l = false) => take_snocF (p := fun x => x.word.isPrefixOf l) hlx hD.out e)
      have HYE := Lib.hid (fun (e : cs[k].word.isPrefixOf l = true) => show ∃ x, cs.find? (fun x => x.word.isPrefixOf l) = some x ∧ x.word = cs[k].word ∧ x.kind = cs[k].kind ∧ x.f = cs[k].f from ⟨cs[k], find_at (p := fun x => x.word.isPrefixOf l) hlx hD.out e, rfl, rfl, rfl⟩)
      have hne1 : wr.heap.size ≠ bp := by have := hR.out.here.2; omega
      have hne2 : wr.heap.size ≠ bb := by have := hR.out.here.1; omega
      have HXK := Lib.hid (show cs[k] = ⟨cs[k].word, cs[k].kind, cs[k].f⟩ from rfl)
      have HCW : Hid (∀ t, cutW cs[k].word l = t → (cs[k].word.isPrefixOf l = true → t = l.drop cs[k].word.length) ∧ (cs[k].word.isPrefixOf l = false → t = l)) := Lib.hid (fun t ht => by
        rw [← ht]
        unfold cutW
        exact ⟨fun e => if_pos e, fun e => if_neg (by rw [e]; decide)⟩)
      have HBX := Lib.hid BX
      have HNW := Lib.hid HNW
      unfold encCh at PS HNW HBX
      clear BX hC
      obtain ⟨t, ht⟩ : ∃ t, cutW cs[k].word l = t := ⟨_, rfl⟩
      have HCW := Lib.hid (HCW.out t ht)
      rw [ht] at PS
      clear ht
      generalize cs[k].word.isPrefixOf l = q at *
      generalize hw9 : cs[k].word = wd at *
      generalize hk9 : cs[k].kind = kd at *
      generalize hf9 : cs[k].f = fk at *
      clear hw9 hk9 hf9
      go_wp2_with fail
      refine PS.out.mono ?_
      rintro e w2 ⟨rfl, ⟨A2, c2', h2⟩, k2⟩
      have hx := k2.at_ HNW.out hne2 hne1
      have x1 : w2.cell? ⟨wr.heap.size, 1, none⟩ = some (.int .i64 kd) := cell_of_row _ _ 1 _ _ _ hx
      have K2 := Lib.hid ((hK.out.trans (Rk.of_below HBX.out)).trans k2)
      cases q with
      | false =>
        have ht := HCW.out.2 rfl
        rw [ht] at h2
        have HNO2 := Lib.hid (HNO.out rfl)
        clear HNO ht HCW HYE hx x1 k2 PS HNW HBX c0 c1 c2
        go_wp2_with fail
        go_roundw
        case rel => exact ⟨k + 1, A2, c2', by omega, by go_num, HNO2, h2, K2⟩
        case measure => simp [intOf]; omega
      | true =>
        have ht := HCW.out.1 rfl
        rw [ht] at h2
        obtain ⟨x9, hx9, rfl, rfl, rfl⟩ := HYE.out rfl
        have HX9 := Lib.hid hx9
        have y1 : w2.cell? ⟨bp, 1, none⟩ = some (.int .i64 r.kind) := cell_of_row _ _ 1 _ _ _ h2.out.blk
        have f1 := Joins.unfrozen_of_block h2.out.blk 1
        have HP := Lib.hid (h2.out.put (i := 1) (v := .int .i64 x9.kind) (r' := { r with kind := x9.kind }) (Ab' := Ab) (kb' := kb) (wh' := wh) (by rw [Joins.block_setCell h2.out.blk]; rfl) h2.out.body)
        have hg3 := grown_setCell w2 bp 1 (.int .i64 x9.kind)
        have x2 : (w2.setCell ⟨bp, 1, none⟩ (.int .i64 x9.kind)).cell? ⟨wr.heap.size, 2, none⟩ = some (.func (Fn.func x9.f) #[.pointer (some ⟨bp, 0, none⟩)] #[]) := by
          refine cell_of_row _ _ 2 _ _ _ ((hg3.block _ (Array.getElem?_eq_some_iff.1 hx).1 (fun e => hne1 (Option.some.inj e))).trans hx)
        have x2' : w2.cell? ⟨wr.heap.size, 2, none⟩ = some (.func (Fn.func x9.f) #[.pointer (some ⟨bp, 0, none⟩)] #[]) := cell_of_row _ _ 2 _ _ _ hx
        have K3 := Lib.hid (K2.out.trans (Rk.of_bp (bb := bb) hg3))
        clear hx9 HYE ht HCW HNO hx k2 PS HNW HBX c0 c1 c2 hg3
        go_wp2_with fail
        go_ret
        exact ⟨Or.inl ⟨_, HX9.out, rfl, _, _, HP⟩, K3.out⟩
    · obtain rfl : k = n := by omega
      have ht : cs.take k = cs := List.take_of_length_le (by rw [HN.out]; exact Nat.le_refl _)
      have HNN := Lib.hid (show cs.find? (fun x => x.word.isPrefixOf l) = none from List.find?_eq_none.2 (fun x hx => by
        have := hD.out x (by rw [ht]; exact hx)
        rw [this]
        decide))
      clear ht hD
      go_wp2_with fail
      go_ret
      exact ⟨Or.inr ⟨HNN.out, rfl, _, _, hR⟩, hK.out⟩
end Go.Proofs.YtpoejnajnaolpaaGreatDoor
