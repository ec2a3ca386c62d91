/- An argument that is a slice of slices of bytes; a row's wrap that keeps the sizes. -/
import Derived.Test.YtldlghfjinpnkaaDoorL5F
import Derived.Test.YtldlghfjinpnkaaDoorLiftY
import Derived.Deep.Matrix
import Derived.Test.YtldlghfjinpnkaaDoorSpl
import Derived.Test.YtldlghfjinpnkaaDoorShelfI
import Derived.Handed
namespace Go.Proofs.YtldlghfjinpnkaaDoor
open Go.ChangeShapes Go.WideShapes Go.ChangeAt Go.WideMaps Go.WideElems Go.RowKit

theorem mem_weightsAll {H : Type} {P : Program} {e : TypeId} {d : DataW H} {n : Nat} : ∀ {l : List (DataW H)}, d ∈ l → n ∈ d.weights P e → n ∈ DataW.weightsAll P e l
  | [], h, _ => by simp at h
  | x :: r, h, hn => by
    rw [DataW.weightsAll]
    rcases List.mem_cons.1 h with rfl | h
    · exact List.mem_append_left _ hn
    · exact List.mem_append_right _ (mem_weightsAll h hn)

set_option maxRecDepth 100000 in
theorem open_parts {H : Type} {enc : TypeId × Value → H} {W : World} {base : Nat} {v : Value} {d : DataW H} {p : List MemPlace}
    (hv : Value.okWide Tryd.prog W .any base 22 v) (h : DataW.Trod enc Tryd.prog W 0 (fun _ => true) true 22 v d p) (hlt : ∀ x ∈ p, x.block < W.heap.size) (hw : ∀ n ∈ d.weights Tryd.prog 22, n ≤ reachBytes) :
    ∃ A c, ∃ ls : List (List UInt8), v = .slice A ls.length c ∧ ls.length ≤ maxLen ∧ (∀ l ∈ ls, l.length ≤ 4611686018427387904) ∧ PtAt W.heap.size W A c ls := by
  obtain ⟨a0, len, cap, rfl⟩ := okWide_slice Tryd.underlying22 hv
  obtain ⟨fuel, hf⟩ := h
  rcases Go.Deep.open_int_rows Tryd.underlying22 Tryd.underlying26 Tryd.underlying5 (by kernel_rfl) (by kernel_rfl) hf with ⟨hcs, _⟩ | ⟨a, len', cap', A, L, C, Z, hcs, _, hlc, hcm, hx, hr⟩
  · simp [Value.cells] at hcs
    obtain ⟨rfl, rfl, rfl⟩ := hcs
    exact ⟨none, 0, [], rfl, Nat.zero_le _, (fun _ h => by simp at h), ⟨Nat.zero_le _, .inl rfl⟩⟩
  · simp [Value.cells] at hcs
    obtain ⟨rfl, rfl, rfl⟩ := hcs
    simp only [Prod.mk.injEq] at hx
    have each : ∀ r, r < len → ∃ l : List UInt8, (l.length ≤ maxLen ∧ l.length ≤ 4611686018427387904) ∧ W.cell? (a.add r) = some (.slice (A r) l.length (C r)) ∧ ByAt W.heap.size W (A r) (C r) l := by
      intro r hrl
      obtain ⟨h1, h2, h3, h4, h5, h6, h7⟩ := hr r (by omega)
      have each2 : ∀ i, i < L r → ∃ n : UInt8, (Z r).getD i 0 = (n.toNat : Int) := by
        intro i hil
        have hw := wf_u8 (h5 ((Z r).getD i 0) (by
          rw [List.getD_eq_getElem?_getD, List.getElem?_eq_getElem (by omega)]
          exact List.getElem_mem _))
        refine ⟨UInt8.ofNat ((Z r).getD i 0).toNat, ?_⟩
        rw [UInt8.toNat_ofNat', Nat.mod_eq_of_lt (by omega)]
        omega
      obtain ⟨f, hf⟩ := Go.Deep.choose_lt each2
      have hll : ((List.range (L r)).map f).length = L r := by rw [List.length_map, List.length_range]
      have hL : L r ≤ 4611686018427387904 := by
        cases hA : A r with
        | none => have := h6 hA; omega
        | some a' =>
          have hm : C r ∈ d.weights Tryd.prog 22 := by
            rw [hx.1, DataW.weights, Tryd.underlying22]
            refine List.mem_cons_of_mem _ (List.mem_append_left _ (mem_weightsAll (List.mem_map.2 ⟨r, List.mem_range.2 hrl, rfl⟩) ?_))
            rw [hA, Go.Deep.intRow, DataW.weights, Tryd.underlying26]
            have e : (lits (H := H) .u8 ((Z r).take (L r))).length + (lits (H := H) .u8 ((Z r).drop (L r))).length = C r := by
              simp [lits]
              omega
            have e2 : Tryd.prog.bytesOf 5 = 1 := by kernel_rfl
            rw [e]
            show C r ∈ C r * Tryd.prog.bytesOf 5 :: _
            rw [e2, Nat.mul_one]
            exact List.mem_cons_self
          have := hw _ hm
          unfold reachBytes at this
          omega
      refine ⟨(List.range (L r)).map f, by rw [hll]; exact ⟨by omega, hL⟩, by rw [hll]; exact h1, ⟨by rw [hll]; exact h2, ?_⟩⟩
      by_cases h0 : L r = 0
      · exact .inl (by simp [h0])
      · cases hA : A r with
        | none => have := h6 hA; omega
        | some a' =>
          have hc := (h7 a' hA).2
          obtain ⟨b, off, spot⟩ := a'
          have hspot : spot = none := by simpa [Addr.add] using World.cell?_spot (hc 0 (by omega))
          subst hspot
          have hb : b < W.heap.size := hlt (.cell b off) (by
            rw [hx.2]
            refine List.mem_append_right _ (List.mem_flatMap.2 ⟨r, List.mem_range.2 (by omega), ?_⟩)
            rw [hA]
            exact MemPlace.mem_row.2 ⟨0, by omega, by simp⟩)
          refine .inr ⟨b, off, rfl, hb, hb, fun j hj => ?_⟩
          rw [hll] at hj
          have c0 := hc j (by omega)
          rw [add_plain, hf j hj] at c0
          simpa using c0
    obtain ⟨f, hf⟩ := Go.Deep.choose_lt each
    have hll : ((List.range len).map f).length = len := by rw [List.length_map, List.length_range]
    refine ⟨some a, _, (List.range len).map f, by rw [hll], by rw [hll]; exact Nat.le_trans hlc hcm, fun l hl => (by
      obtain ⟨r, hr9, rfl⟩ := List.mem_map.1 hl
      exact (hf r (List.mem_range.1 hr9)).1.2), ⟨by rw [hll]; exact hlc, ?_⟩⟩
    by_cases h0 : len = 0
    · exact .inl (by simp [h0])
    · obtain ⟨b, off, spot⟩ := a
      have hspot : spot = none := by simpa [Addr.add] using World.cell?_spot (hf 0 (by omega)).2.1
      subst hspot
      have hb : b < W.heap.size := hlt (.cell b off) (by
        rw [hx.2]
        exact List.mem_append_left _ (MemPlace.mem_row.2 ⟨0, by omega, by simp⟩))
      refine .inr ⟨b, off, rfl, hb, hb, fun j hj => ?_⟩
      rw [hll] at hj
      obtain ⟨g1, g2, g3⟩ := hf j hj
      rw [add_plain] at g2
      have e : ((List.range len).map f)[j]'(by rw [hll]; exact hj) = f j := by simp
      rw [e]
      exact ⟨g1.1, _, _, g2, g3⟩
end Go.Proofs.YtldlghfjinpnkaaDoor
namespace Go.Proofs.YtldlghfjinpnkaaDoor
open Go.ChangeShapes Go.WideShapes Go.ChangeAt Go.WideMaps Go.WideElems Go.RowKit

theorem returns_listed_sized {H : Type} {enc : TypeId × Value → H} {a : Assume} {C : Checked} {os : Os} {f : FuncId} {fn : Func} {s : ChangeSpec} {conds : List PathCond} {apart fresh handsOn again : Bool} {X : World → Array Value → Prop}
    (hX : ∀ (w w' : World) (args : Array Value), w.heap = w'.heap → X w args → X w' args)
    (own : ownKnob C.prog.godebug = none) (started : os.Started) (noInit : C.prog.inits.idxOf? f = none) (hfn : C.prog.funcs[f]? = some fn)
    (witness : ∃ (w : World) (tape : Tape) (i : Input), w.os = os ∧ (w.forCall tape i).Shaped C.prog ∧ i.vars = [] ∧ Input.okWide C.prog (w.forCall tape i) .any w.heap.size f i ∧
      ((s.pre enc C.prog fn conds apart (w.forCall tape i).memory i.args ∧ X (w.forCall tape i).memory i.args) ∧ sizedMet enc C.prog fn (OpenSpec.ofChange s) apart (w.forCall tape i).memory i.args) ∧ a.holds C.prog (lone (Frame.enter C.prog f i.args .normal) [] (w.forCall tape i)))
    (contract : ∀ (W : World) (base : Nat) (args : Array Value) (ds gs : List (DataW H)) (before : List MemPlace),
      (∀ (j : Nat) t v, fn.params[j]? = some t → args[j]? = some v → Value.okWide C.prog W .any base t v) →
      DataW.Whole enc C.prog fn.params.toList (OpenSpec.ofChange s).vars apart W args.toList ds gs before → (DataW.weightsEach C.prog (fn.params.toList ++ (OpenSpec.ofChange s).bare.plain.varTypes C.prog) (ds ++ gs)).all (· ≤ reachBytes) = true → X W args → W.ShapedOpen C.prog →
      Calls C.prog f args W fun e W' => ∃ v, e = .returned v ∧ s.post enc C.prog fn apart fresh handsOn again W args v W') :
    ReturnsInHanded a C os f .any (fun w args => (s.pre enc C.prog fn conds apart w args ∧ X w args) ∧ sizedMet enc C.prog fn (OpenSpec.ofChange s) apart w args) (s.post enc C.prog fn apart fresh handsOn again) := by
  refine returnsInHanded_of_calls own started noInit witness ?_
  intro w tape i _ hsh _ hok hpre _
  obtain ⟨_, _, _, fn', hfn', _, _, _, _, hval⟩ := hok
  have e : fn' = fn := Option.some.inj (hfn'.symm.trans hfn)
  subst e
  obtain ⟨⟨_, hx⟩, _, ds, gs, before, hw, hwt⟩ := hpre
  have hw' := DataW.Whole.of_heap (w' := w.forCall tape i) (by rfl) hw
  refine (contract (w.forCall tape i) w.heap.size i.args ds gs before hval hw' hwt (hX _ _ _ (by rfl) hx) hsh).mono fun e W' ⟨v, he, hp⟩ => ?_
  subst he
  exact ChangeSpec.post_blind hp

end Go.Proofs.YtldlghfjinpnkaaDoor
