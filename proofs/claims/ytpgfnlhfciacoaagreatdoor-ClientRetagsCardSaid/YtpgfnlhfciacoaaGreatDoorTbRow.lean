/- The text of a command while it is put together: a slice of bytes in a row of its own, whatever the row's mark, and what append does to it. -/
import Derived.Test.YtpgfnlhfciacoaaGreatDoorGf
import Derived.Deep.AppendSrc
namespace Go.Proofs.YtpgfnlhfciacoaaGreatDoor
open Go.RowKit

/-- The slice of address g and capacity c reads as l; nothing in the row of block g is frozen. -/
structure TbR (g : Nat) (w : World) (c : Nat) (l : List UInt8) : Prop where
  le : l.length ≤ c
  row : ∃ cs fr, w.heap[g]? = some (.cells cs 5 fr) ∧ cs.size = c ∧ (fr = (0, 0) ∨ fr = (cs.size, cs.size + 1)) ∧ ∀ j (h : j < l.length), w.cell? ⟨g, j, none⟩ = some (.int .u8 (l[j].toNat : Int))

section
variable {g c : Nat} {w w' : World} {l : List UInt8}
theorem TbR.lt (h : TbR g w c l) : g < w.heap.size := by
  obtain ⟨cs, fr, hh, _⟩ := h.row
  exact (Array.getElem?_eq_some_iff.1 hh).1
theorem TbR.kept (h : TbR g w c l) (hk : w'.heap[g]? = w.heap[g]?) : TbR g w' c l := by
  obtain ⟨h1, cs, fr, hh, hs, hf, hc⟩ := h
  exact ⟨h1, cs, fr, hk.trans hh, hs, hf, fun j hj => (World.cell?_of_block (a := ⟨g, j, none⟩) hk).trans (hc j hj)⟩
theorem TbR.below (h : TbR g w c l) (hb : Below w.heap.size w w') : TbR g w' c l := h.kept (hb.block g h.lt)
theorem TbR.by (h : TbR g w c l) : ByAt w.heap.size w (some ⟨g, 0, none⟩) c l := by
  have hlt := h.lt
  obtain ⟨cs, fr, _, _, _, hc⟩ := h.row
  exact ⟨h.le, .inr ⟨g, 0, rfl, hlt, hlt, fun j hj => by rw [Nat.zero_add]; exact hc j hj⟩⟩
theorem TbR.of_str (s : ByteArray) (cap : Nat) (h : s.size ≤ cap) (hr : w.heap[g]? = some (.cells (bytesRow s cap) 5 ((bytesRow s cap).size, (bytesRow s cap).size + 1))) : TbR g w cap s.data.toList := by
  have hl : s.data.toList.length = s.size := by rw [Array.length_toList]; rfl
  refine ⟨by omega, _, _, hr, bytesRow_size s cap h, .inr rfl, fun j hj => ?_⟩
  rw [Array.length_toList] at hj
  rw [cell_of_row w g j _ _ _ hr, bytesRow_at s cap j hj]
  simp
/-- No cell of such a row is frozen. -/
theorem tb_open {cs : Array Value} {t : TypeId} {fr : Nat × Nat} (hh : w.heap[g]? = some (.cells cs t fr)) (hf : fr = (0, 0) ∨ fr = (cs.size, cs.size + 1)) {j : Nat} (hj : j < cs.size) : w.frozen? ⟨g, j, none⟩ = false := by
  rcases hf with rfl | rfl
  · exact Joins.unfrozen_of_block hh _
  · simp only [World.frozen?, hh]
    simp
    omega
end
def byV (l : List UInt8) : List Value := l.map fun x => Value.int .u8 (x.toNat : Int)

set_option maxHeartbeats 1000000 in
/-- append: in place where there is room, else a new row. -/
theorem append_tb (w : World) (tx ty : TypeId) (g c n : Nat) (l : List UInt8) (h : TbR g w c l) (hn : l.length = n) (x : Value) (m : Nat) (p : List UInt8) (hs : Src Tryz.prog 1 tx x m (byV p) w) (h63 : n + m ≤ 1000000000) :
    ∃ g' c' w', (Builtin.append_ #[24, tx] ty #[.slice (some ⟨g, 0, none⟩) n c, x]).run Tryz.prog w = .ok (.slice (some ⟨g', 0, none⟩) (n + m) c') w' ∧ TbR g' w' c' (l ++ p) ∧ (g' = g ∨ w.heap.size ≤ g') ∧ w.grownBy w' (some g) := by
  subst hn
  obtain ⟨i0, hi, hz0, hz1, hz2⟩ := info_parts infoByte
  have hm : p.length = m := by have := hs.newsLen; simpa [byV] using this
  have hle := h.le
  obtain ⟨cs, fr, hh, hsz, hf, hc⟩ := h.row
  by_cases hroom : l.length + m ≤ c
  · have hin : ∀ j, j < (byV p).length → l.length + j < cs.size := fun j hj => by simp [byV] at hj; omega
    have hcell : ∀ j, j < (byV p).length → (w.cell? ⟨g, 0 + l.length * i0.size + j, none⟩).isSome = true := fun j hj => by
      have := hin j hj
      rw [hz1, Nat.mul_one, Nat.zero_add, cell_of_row w g _ _ _ _ hh, Array.getElem?_eq_getElem (by omega)]
      rfl
    have hr := run_append_room_src (P := Tryz.prog) w 24 tx ty 5 i0 Tryz.underlying24 hi g 0 l.length c x m (byV p) (hz1.symm ▸ hs) hroom hcell
      (fun j hj => by
        have := hin j hj
        rw [hz1, Nat.mul_one, Nat.zero_add]
        exact tb_open hh hf (by omega))
    obtain ⟨cs', q1, q2⟩ := block_setCells (byV p) (0 + l.length * i0.size) w cs hh
    refine ⟨g, c, _, hr, ⟨by rw [List.length_append]; omega, cs', fr, q1, by omega, by rw [q2]; exact hf, fun j hj => ?_⟩, .inl rfl, grown_setCells g _ _ w w (World.grownBy.refl _ _)⟩
    rw [List.length_append] at hj
    by_cases hlt : j < l.length
    · rw [World.cell?_setCells_out g _ _ w _ (fun _ _ => Or.inl (by rw [hz1]; show j < 0 + l.length * 1; omega)), List.getElem_append_left hlt]
      exact hc j hlt
    · have e : j = 0 + l.length * i0.size + (j - l.length) := by rw [hz1]; omega
      have hj2 : j - l.length < (byV p).length := by simp only [byV, List.length_map]; omega
      have hin2 := World.cell?_setCells_in g (byV p) (0 + l.length * i0.size) w hcell (j - l.length) hj2
      rw [← e] at hin2
      rw [hin2, List.getElem_append_right (by omega)]
      simp [byV]
  · have holds : ∀ j u, (byV l)[j]? = some u → w.drew.cell? ((⟨g, 0, none⟩ : Addr).add j) = some u := fun j u hj => by
      rw [byV, List.getElem?_map] at hj
      obtain ⟨y, hy, rfl⟩ := Option.map_eq_some_iff.1 hj
      obtain ⟨hlt, rfl⟩ := List.getElem?_eq_some_iff.1 hy
      rw [Addr.add_lit, Nat.zero_add]
      exact hc j hlt
    have hold := run_firstCells_some (P := Tryz.prog) w.drew i0.size l.length ⟨g, 0, none⟩ l.length c (byV l) (by rw [hz1]; simp [byV]) holds
    have hr := run_append_grow_src (P := Tryz.prog) w 24 tx ty 5 i0 (.int .u8 0) Tryz.underlying24 hi hz0 (some ⟨g, 0, none⟩) l.length c (byV l) hold x m (byV p) (hz1.symm ▸ hs) (by omega) (by omega)
      (growslice_fits (by omega) (by rw [hz2]; omega))
    have hge := grownCap_ge w (l.length + m) c 5
    generalize ho : Obj.cells ((byV l ++ byV p).toArray ++ Builtin.zeroCells (Value.int IntKind.u8 0).cells (grownCap w (l.length + m) c 5 - (l.length + m))) 5 = X at hr
    have hnew : (w.drew.alloc X).heap[w.heap.size]? = some X := heap_alloc_new w.drew X
    have hgr : w.grownBy (w.drew.alloc X) (some g) := ⟨rfl, rfl, rfl, by simp, fun k hk _ => heap_alloc_old w.drew X hk⟩
    subst ho
    refine ⟨_, _, _, hr, ⟨by rw [List.length_append]; omega, _, _, hnew, ?_, .inl rfl, fun j hj => ?_⟩, .inr (Nat.le_refl w.heap.size), hgr⟩
    · simp only [Array.size_append, List.size_toArray, size_zeroCells, List.length_append]
      show (byV l).length + (byV p).length + _ * 1 = _
      simp only [byV, List.length_map]
      omega
    · rw [cell_of_row _ _ j _ _ _ hnew]
      have h1 : j < (byV l ++ byV p).length := by simpa [byV] using hj
      rw [Array.getElem?_append_left (by simpa using h1)]
      simp only [List.getElem?_toArray]
      rw [List.getElem?_eq_getElem h1]
      simp [byV, ← List.map_append]

/-- The source of one byte, as a literal. -/
theorem src_one (w : World) (b : Nat) (x : UInt8) (n : Nat) (hc : w.cell? ⟨b, 0, none⟩ = some (.int .u8 (x.toNat : Int))) : Src Tryz.prog 1 24 (.slice (some ⟨b, 0, none⟩) 1 n) 1 (byV [x]) w :=
  Src.ofSlice w Tryz.underlying24 ⟨b, 0, none⟩ 1 n (byV [x]) rfl (fun j u hj => by
    cases j with
    | zero => simp [byV] at hj; rw [← hj]; simpa [Addr.add_lit] using hc
    | succ j => simp [byV] at hj) (fun u hu => by simp [byV] at hu; rw [hu]; rfl)
theorem src_str (w : World) (s : ByteArray) : Src Tryz.prog 1 9 (.string s) s.size (byV s.data.toList) w := Src.ofString w Tryz.underlying9 s
theorem wpList_append_tb {w : World} {ops : Array Oper} {rest : List Oper} {o : Oper} {a : Act} {Q : Exit → Act → World → Prop} (hgd : o.guard = none) (s x : Operand) (tx : TypeId)
    (ho : o.op = .call { callee := .builtin .append, args := #[s, x], argTypes := #[24, tx] })
    (g c n : Nat) (l : List UInt8) (hT : TbR g w c l) (hn : l.length = n) (hs : a.eval s = .slice (some ⟨g, 0, none⟩) n c) (v : Value) (m : Nat) (p : List UInt8) (hx : a.eval x = v) (hS : Src Tryz.prog 1 tx v m (byV p) w) (h63 : n + m ≤ 1000000000) (k : Nat) (hk : n + m = k)
    (h : ∀ g' c' w', Hid (TbR g' w' c' (l ++ p)) → Hid (g' = g ∨ w.heap.size ≤ g') → Hid (w.grownBy w' (some g)) → wpList Tryz.prog ops Q rest (a.put o.dst (.slice (some ⟨g', 0, none⟩) k c')) w') : wpList Tryz.prog ops Q (o :: rest) a w := by
  subst hk
  obtain ⟨g', c', w', hrun, h2, h3, h4⟩ := append_tb w tx o.type g c n l hT hn v m p hS h63
  refine wpList_plain hgd fun K hK => ?_
  unfold Oper.wp execOp
  simp only [ho, resolve, invoke, builtin, Sem.run_bind, Sem.run_pure, Result.andThen_ok, List.map_toArray, List.map_cons, List.map_nil, hs, hx, hrun]
  exact hK _ _ (h g' c' w' h2 h3 h4)
end Go.Proofs.YtpgfnlhfciacoaaGreatDoor
