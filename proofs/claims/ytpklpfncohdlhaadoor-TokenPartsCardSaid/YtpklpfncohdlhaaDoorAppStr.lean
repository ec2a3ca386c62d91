/- append onto the new row of a '[]byte(s)': in place where there is room, else a new row. -/
import Derived.Test.YtpklpfncohdlhaaDoorBy
import Derived.ArgAppend
namespace Go.Proofs.YtpklpfncohdlhaaDoor
open Go.RowKit

theorem below_setCells (B b : Nat) (h : B ≤ b) : ∀ (vs : List Value) (o : Nat) (a x : World), Below B a x → Below B a (x.setCells b o vs)
  | [], _, _, _, hb => hb
  | v :: r, o, a, _, hb => below_setCells B b h r (o + 1) a _ (hb.setCell (p := ⟨b, o, none⟩) h v)

theorem infoByte : (Tryd.prog.info? 5).map (fun i => (i.zero, i.size, i.bytes)) = some (some (.int .u8 0), 1, 1) := by kernel_rfl
theorem bytesRow_size (s : ByteArray) (cap : Nat) (h : s.size ≤ cap) : (bytesRow s cap).size = cap := by
  have e : s.data.size = s.size := rfl
  simp [bytesRow, e]; omega

set_option maxHeartbeats 1000000 in
theorem append_str (w : World) (ty : TypeId) (g cap : Nat) (S : ByteArray) (hcap : S.size ≤ cap)
    (hrow : w.heap[g]? = some (.cells (bytesRow S cap) 5 ((bytesRow S cap).size, (bytesRow S cap).size + 1)))
    (B : Nat) (A : Option Addr) (c : Nat) (l : List UInt8) (hA : ByAt B w A c l) (h63 : S.size + l.length ≤ 1000000000) :
    ∃ A' c' w', (Builtin.append_ #[22, 22] ty #[.slice (some ⟨g, 0, none⟩) S.size cap, .slice A l.length c]).run Tryd.prog w = .ok (.slice A' (S.size + l.length) c') w' ∧
      ByAt w'.heap.size w' A' c' (S.data.toList ++ l) ∧ Below g w w' := by
  obtain ⟨i0, hi, hz0, hz1, hz2⟩ := info_parts infoByte
  have hgw := (Array.getElem?_eq_some_iff.1 hrow).1
  have hR := bytesRow_reads S cap w g _ hrow hcap
  have hSl : S.data.toList.length = S.size := by rw [Array.length_toList]; rfl
  have hRc : ∀ j (hj : j < S.data.toList.length), w.cell? ⟨g, 0 + j, none⟩ = some (.int .u8 (S.data.toList[j].toNat : Int)) := fun j hj => by
    rw [Array.length_toList] at hj
    rw [Nat.zero_add, cell_of_row w g j _ _ _ hrow, bytesRow_at S cap j hj]
    simp
  rcases hA.lies with rfl | ⟨b, off, rfl, _, _, hc⟩
  · refine ⟨some ⟨g, 0, none⟩, cap, w, ?_, by simpa using hR, Below.refl _ _⟩
    rcases A with _ | ad
    · simp [Builtin.append_, run_underlying Tryd.underlying22, sizeOf, typeInfo, hi, Builtin.lenOf, Builtin.firstCells, hcap, storeCells]
    · exact run_append_room_cells (P := Tryd.prog) w 22 ty 5 i0 Tryd.underlying22 hi g 0 S.size cap ad 0 c [] (by simp) (by simp) (by simp) (by omega) (by simp) (by simp)
  · have hnews : ∀ j u, (l.map fun x => Value.int .u8 (x.toNat : Int))[j]? = some u → w.cell? ((⟨b, off, none⟩ : Addr).add j) = some u := fun j u hj => by
      rw [List.getElem?_map] at hj
      obtain ⟨x, hx, rfl⟩ := Option.map_eq_some_iff.1 hj
      obtain ⟨hlt, rfl⟩ := List.getElem?_eq_some_iff.1 hx
      rw [Addr.add_lit]
      exact hc j hlt
    have h1 : ∀ u ∈ (l.map fun x => Value.int .u8 (x.toNat : Int)), u.oneCell' = true := fun u hu => by
      obtain ⟨x, _, rfl⟩ := List.mem_map.1 hu
      rfl
    have hl : (l.map fun x => Value.int .u8 (x.toNat : Int)).length = l.length * i0.size := by rw [hz1]; simp
    by_cases hroom : S.size + l.length ≤ cap
    · have hcell : ∀ j, S.size + j < cap → (w.cell? ⟨g, 0 + S.size * i0.size + j, none⟩).isSome = true := fun j hj => by
        rw [hz1, Nat.mul_one, Nat.zero_add, cell_of_row w g _ _ _ _ hrow, Array.getElem?_eq_getElem (by rw [bytesRow_size S cap hcap]; exact hj)]
        rfl
      have hr := run_append_room_cells (P := Tryd.prog) w 22 ty 5 i0 Tryd.underlying22 hi g 0 S.size cap ⟨b, off, none⟩ l.length c _ hl hnews h1 hroom
        (fun j hj => hcell j (by rw [List.length_map] at hj; omega))
        (fun j hj => by
          rw [List.length_map] at hj
          simp only [World.frozen?, hrow, hz1, bytesRow_size S cap hcap]
          simp; omega)
      have hb := below_setCells g g (Nat.le_refl _) (l.map fun x => Value.int .u8 (x.toNat : Int)) (0 + S.size * i0.size) w w (Below.refl _ _)
      have hsz := hb.size
      refine ⟨_, cap, _, hr, ⟨by rw [List.length_append, hSl]; omega, .inr ⟨g, 0, rfl, by omega, by omega, fun j hj => ?_⟩⟩, hb⟩
      rw [List.length_append, hSl] at hj
      by_cases hlt : j < S.size
      · rw [World.cell?_setCells_out g _ _ w _ (fun _ _ => Or.inl (by rw [hz1]; show 0 + j < 0 + S.size * 1; omega)), List.getElem_append_left (by rw [hSl]; exact hlt)]
        exact hRc j (by rw [hSl]; exact hlt)
      · have hj2 : j - S.size < (l.map fun x => Value.int .u8 (x.toNat : Int)).length := by rw [List.length_map]; omega
        have hin := World.cell?_setCells_in g (l.map fun x => Value.int .u8 (x.toNat : Int)) (0 + S.size * i0.size) w (fun j hj => hcell j (by rw [List.length_map] at hj; omega)) (j - S.size) hj2
        rw [hz1] at hin
        rw [hz1, show 0 + j = 0 + S.size * 1 + (j - S.size) by omega, hin, List.getElem_append_right (by rw [hSl]; omega)]
        simp [hSl]
    · obtain ⟨v', w', hr, hown, hg⟩ := run_append_arg_grows (P := Tryd.prog) w 22 ty 5 i0 _ 1 1 Tryd.underlying22 hi hz0 hz1 hz2 rfl (by decide) ⟨g, 0, none⟩ S.size cap (S.data.toList.map fun x => Value.int .u8 (x.toNat : Int)) (by rw [List.length_map, hSl, Nat.mul_one])
        (fun j u hj => by
          rw [List.getElem?_map] at hj
          obtain ⟨x, hx, rfl⟩ := Option.map_eq_some_iff.1 hj
          obtain ⟨hlt, rfl⟩ := List.getElem?_eq_some_iff.1 hx
          rw [Addr.add_lit]
          exact hRc j hlt)
        ⟨b, off, none⟩ l.length c (l.map fun x => Value.int .u8 (x.toNat : Int)) (by simp) hnews (by omega) (by unfold maxLen; omega) (by omega)
      have hb : Below g w w' := (Below.refl g w).grown hg (by omega) (fun _ e => by cases e)
      rcases hown.2 with ⟨_, h0⟩ | ⟨g', cap', cur, rfl, hg1, hg2, hle, _⟩
      · omega
      · refine ⟨_, _, w', hr, ?_, hb⟩
        refine ByAt.of_own (e := 5) (n := S.size + l.length) (base := w.heap.size) ?_
        have e : flatL encB (S.data.toList ++ l) = (S.data.toList.map fun x => Value.int .u8 (x.toNat : Int)) ++ l.map fun x => Value.int .u8 (x.toNat : Int) := by rw [flatB, List.map_append]
        rw [e, List.length_append, hSl]
        exact hown

theorem wpList_append_str {w : World} {ops : Array Oper} {rest : List Oper} {o : Oper} {a : Act} {Q : Exit → Act → World → Prop} (hgd : o.guard = none) (s x : Operand)
    (ho : o.op = .call { callee := .builtin .append, args := #[s, x], argTypes := #[22, 22] })
    (g cap m : Nat) (S : ByteArray) (hm : S.size = m) (hcap : m ≤ cap) (hs : a.eval s = .slice (some ⟨g, 0, none⟩) m cap)
    (hrow : w.heap[g]? = some (.cells (bytesRow S cap) 5 ((bytesRow S cap).size, (bytesRow S cap).size + 1)))
    (B : Nat) (A : Option Addr) (c : Nat) (l : List UInt8) (hx : a.eval x = .slice A l.length c) (hA : ByAt B w A c l) (h63 : m + l.length ≤ 1000000000) (n : Nat) (hn : m + l.length = n)
    (h : ∀ A' c' w', Hid (ByAt w'.heap.size w' A' c' (S.data.toList ++ l)) → Below g w w' → wpList Tryd.prog ops Q rest (a.put o.dst (.slice A' n c')) w') : wpList Tryd.prog ops Q (o :: rest) a w := by
  subst hm
  subst hn
  obtain ⟨A', c', w', hrun, h2, h3⟩ := append_str w o.type g cap S hcap hrow B A c l hA h63
  refine wpList_plain hgd fun K hK => ?_
  unfold Oper.wp execOp
  simp only [ho, resolve, invoke, builtin, Sem.run_bind, Sem.run_pure, Result.andThen_ok, List.map_toArray, List.map_cons, List.map_nil, hs, hx, hrun]
  exact hK _ _ (h A' c' w' h2 h3)
end Go.Proofs.YtpklpfncohdlhaaDoor
