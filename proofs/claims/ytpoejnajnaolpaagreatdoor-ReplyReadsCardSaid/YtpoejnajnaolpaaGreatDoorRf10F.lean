/- The reference of layer 10: fetched. -/
import Derived.Test.YtpoejnajnaolpaaGreatDoorRf10B
import Derived.Test.YtpoejnajnaolpaaGreatDoorRf10M
import Derived.Test.YtpoejnajnaolpaaGreatDoorGe
import Derived.Test.YtpoejnajnaolpaaGreatDoorGb
import Derived.Test.YtpoejnajnaolpaaGreatDoorRpRe
import Derived.Deep.CutBlock
import Derived.Deep.DeepCutAuto
import Derived.Deep.Cut
namespace Go.Proofs.YtpoejnajnaolpaaGreatDoor
open Go.RowKit

/-- The box of the response under way, the box of the result, the body's own bytes. -/
structure FB (bs : Nat) (r : RI) (Ab : Option Addr) (kb : Nat) (W : World) : Prop where
  bx : RsBox bs r Ab kb W
  z : RsBox (bs + 1) rsZero none 0 W
  own : W.ownsRow (bs + 2) 5 1 (.slice Ab r.body.length kb) r.body.length (flatL encB r.body)
section
variable {bs kb : Nat} {r : RI} {Ab : Option Addr} {W W' : World}
theorem FB.below (h : FB bs r Ab kb W) (hb : Below W.heap.size W W') : FB bs r Ab kb W' := ⟨h.bx.below hb, h.z.below hb, own_below h.own hb⟩
theorem FB.set (h : FB bs r Ab kb W) {i : Nat} {v : Value} {r' : RI} {Ab' : Option Addr} {kb' : Nat} (hb : RsBox bs r' Ab' kb' (W.setCell ⟨bs, i, none⟩ v))
    (ho : W.ownsRow (bs + 2) 5 1 (.slice Ab' r'.body.length kb') r'.body.length (flatL encB r'.body)) : FB bs r' Ab' kb' (W.setCell ⟨bs, i, none⟩ v) := by
  have hg := grown_setCell W bs i v
  exact ⟨hb, (hg.block _ h.z.lt (fun e => by have := Option.some.inj e; omega)).trans h.z, own_past9 ho hg (by omega)⟩
theorem FB.flags (h : FB bs r Ab kb W) (f : Nat) : FB bs { r with flags := f } Ab kb (W.setCell ⟨bs, 6, none⟩ (.int .u8 (f : Int))) := h.set (Joins.block_setCell (i := 6) h.bx _) h.own
theorem FB.uid (h : FB bs r Ab kb W) (f : Nat) : FB bs { r with uid := f } Ab kb (W.setCell ⟨bs, 7, none⟩ (.int .u32 (f : Int))) := h.set (Joins.block_setCell (i := 7) h.bx _) h.own
theorem FB.size (h : FB bs r Ab kb W) (f : Nat) : FB bs { r with size := f } Ab kb (W.setCell ⟨bs, 8, none⟩ (.int .u32 (f : Int))) := h.set (Joins.block_setCell (i := 8) h.bx _) h.own
theorem FB.items (h : FB bs r Ab kb W) (i : Int) : FB bs { r with items := i } Ab kb (W.setCell ⟨bs, 5, none⟩ (.int .i64 i)) := h.set (Joins.block_setCell (i := 5) h.bx _) h.own
theorem FB.body (h : FB bs r Ab kb W) {l : List UInt8} {A' : Option Addr} {k' : Nat} (ho : W.ownsRow (bs + 2) 5 1 (.slice A' l.length k') l.length (flatL encB l)) : FB bs { r with body := l } A' k' (W.setCell ⟨bs, 9, none⟩ (.slice A' l.length k')) := h.set (Joins.block_setCell (i := 9) h.bx _) ho
end
/-- Behind the switch. -/
def Mid (l : List UInt8) (n : Nat) (w0 : World) (o : Option (Int × RI × List UInt8)) (s7 s8 : Value) (wx : World) : Prop :=
  ∃ q Ab kb, FB w0.heap.size q Ab kb wx ∧ Below w0.heap.size w0 wx ∧ ((o = none ∧ ∃ i : Int, s7 = .int .i64 i ∧ s8 = .int .i64 (-1)) ∨ (∃ (i : Int) (m : Nat), m ≤ n ∧ o = some (i, q, l.drop m) ∧ s7 = .int .i64 i ∧ s8 = .int .i64 (m : Int)))
theorem Mid.no {l : List UInt8} {n : Nat} {w0 wx : World} {q : RI} {Ab : Option Addr} {kb : Nat} (h : FB w0.heap.size q Ab kb wx) (hb : Below w0.heap.size w0 wx) (i : Int) : Mid l n w0 none (.int .i64 i) (.int .i64 (-1)) wx := ⟨q, Ab, kb, h, hb, .inl ⟨rfl, i, rfl, rfl⟩⟩
theorem Mid.yes {l : List UInt8} {n m : Nat} {w0 wx : World} {q : RI} {Ab : Option Addr} {kb : Nat} {i : Int} (h : FB w0.heap.size q Ab kb wx) (hb : Below w0.heap.size w0 wx) (hm : m ≤ n) {o : Option (Int × RI × List UInt8)} (ho : o = some (i, q, l.drop m)) : Mid l n w0 o (.int .i64 i) (.int .i64 (m : Int)) wx := ⟨q, Ab, kb, h, hb, .inr ⟨i, m, hm, ho, rfl, rfl⟩⟩
theorem fb_below {w w1 : World} {i : Nat} {v : Value} (h : Below w.heap.size w w1) : Below w.heap.size w (w1.setCell ⟨w.heap.size, i, none⟩ v) := below_st h (grown_setCell w1 _ i v) (Nat.le_refl _)
theorem fet_step {g : Nat} {s t : List UInt8} {r q R : RI} {i : Int} (hF : fetM litO (g + 1) s r = R) (ho : itemM litO s r = some (i, q, t)) (hit : q.items = r.items) :
    (i ≤ q.items → R = rsZero) ∧ (¬ i ≤ q.items → List.isPrefixOf [41, 13, 10] t = true → R = { q with items := bits BinOp.or IntKind.i64 q.items i }) ∧
    (¬ i ≤ q.items → List.isPrefixOf [41, 13, 10] t = false → List.isPrefixOf [32] t = true → fetM litO g (t.drop 1) { q with items := bits BinOp.or IntKind.i64 q.items i } = R) ∧
    (¬ i ≤ q.items → List.isPrefixOf [41, 13, 10] t = false → List.isPrefixOf [32] t = false → R = rsZero) := by
  rw [fetM, ho] at hF
  simp only [] at hF
  rw [hit]
  refine ⟨fun h => ?_, fun h h1 => ?_, fun h h1 h2 => ?_, fun h h1 h2 => ?_⟩
  · rw [if_pos h] at hF
    exact hF.symm
  · rw [if_neg h, if_pos h1] at hF
    exact hF.symm
  · rw [if_neg h, if_neg (by rw [h1]; decide)] at hF
    cases t with
    | nil => cases h2
    | cons x t =>
      have hx : x = 32 := by
        simp only [List.isPrefixOf, Bool.and_true, beq_iff_eq] at h2
        exact h2.symm
      subst hx
      exact hF
  · rw [if_neg h, if_neg (by rw [h1]; decide)] at hF
    cases t with
    | nil => exact hF.symm
    | cons x t =>
      have hx : x ≠ 32 := by
        rintro rfl
        simp [List.isPrefixOf] at h2
      split at hF
      · rename_i heq
        exact absurd (List.cons.inj heq).1 hx
      · exact hF.symm
/-- What fetched, guess return. -/
def FtPo (w : World) (R : RI) (e : Ending) (w' : World) : Prop := ∃ A' c', e = .returned (rsV R A' c') ∧ w'.ownsRow w.heap.size 5 1 (.slice A' R.body.length c') R.body.length (flatL encB R.body) ∧ Below w.heap.size w w'
theorem FtPo.zero {w w' : World} {R : RI} (h : rsZero = R) (hb : Below w.heap.size w w') : FtPo w R (.returned (rsV rsZero none 0)) w' := by
  subst h
  exact ⟨none, 0, rfl, World.ownsRow_nil _ _ _ _, hb⟩
theorem FtPo.of {w w' : World} {R q : RI} {A : Option Addr} {k : Nat} (h : q = R) (ho : w'.ownsRow w.heap.size 5 1 (.slice A q.body.length k) q.body.length (flatL encB q.body)) (hb : Below w.heap.size w w') : FtPo w R (.returned (rsV q A k)) w' := by
  subst h
  exact ⟨A, k, rfl, ho, hb⟩
theorem FB.under {w w1 : World} {r : RI} {Ab : Option Addr} {kb : Nat} (h : FB w.heap.size r Ab kb w1) : w.heap.size + 2 ≤ w1.heap.size := by
  have := h.z.lt
  omega
theorem pre_le {m s : List UInt8} (h : m.isPrefixOf s = true) : m.length ≤ s.length := by
  rw [List.isPrefixOf_iff_prefix] at h
  exact h.length_le
theorem int_le {k : IntKind} {a b : Int} (h : a = b) : Value.int k a = .int k b := by rw [h]

def encRx0 (r : RI) (A : Option Addr) (k : Nat) : List Value := [.int .i64 r.kind, .int .u32 (r.n : Int), .string ⟨r.tag.toArray⟩, .int .i64 r.status, .string ⟨r.text.toArray⟩, .int .i64 r.items, .int .u8 (r.flags : Int), .int .u32 (r.uid : Int), .int .u32 (r.size : Int), .slice A r.body.length k]
set_option maxRecDepth 100000 in
set_option maxHeartbeats 16000000 in
theorem fetched10_any (c n k : Nat) (A : Option Addr) (l : List UInt8) (hn : l.length = n) (hk : k ≤ n) (hl : n ≤ 1000000) (x : Nat) (hx : x ≤ 4294967295) (w : World) (hA : ByAt w.heap.size w A c l) :
    Calls Tryz.prog 44 #[.slice A n c, .int .i64 (k : Int), rsV (rpR x 0 0 0 0 []) none 0] w fun e w' => FtPo w (fetM litO 5 (l.drop k) (rpR x 0 0 0 0 [])) e w' := by
  have HB0 := Lib.hid (below_2box w (.cells (encRx0 (rpR x 0 0 0 0 []) none 0).toArray 27) (.cells (encRx0 rsZero none 0).toArray 27))
  have HF0 := Lib.hid (show FB w.heap.size (rpR x 0 0 0 0 []) none 0 ((w.alloc (.cells (encRx0 (rpR x 0 0 0 0 []) none 0).toArray 27)).alloc (.cells (encRx0 rsZero none 0).toArray 27)) from by
    have h2 := heap_alloc_new (w.alloc (.cells (encRx0 (rpR x 0 0 0 0 []) none 0).toArray 27)) (.cells (encRx0 rsZero none 0).toArray 27)
    rw [World.size_alloc] at h2
    exact ⟨((below_al (w.alloc (.cells (encRx0 (rpR x 0 0 0 0 []) none 0).toArray 27)) _).block w.heap.size (by simp)).trans (heap_alloc_new w _), h2, World.ownsRow_nil _ _ _ _⟩)
  have HA := Lib.hid (fun W (h : Below w.heap.size w W) => hA.below h)
  have HN := Lib.hid hn
  obtain ⟨R, hR⟩ : ∃ R, fetM litO 5 (l.drop k) (rpR x 0 0 0 0 []) = R := ⟨_, rfl⟩
  rw [hR]
  have HR := Lib.hid hR
  have HK := Lib.hid (rpR_fk 1000000 hx)
  clear hR hA hn
  unfold encRx0 at HB0 HF0
  unfold rsV
  go_enter Tryz.func44, Tryz.ntmps44
  go_wp2_with fail
  go_loopg [1] 5 (fun gg v wr => ∃ (j : Nat) (r : RI) (Ab : Option Addr) (kb : Nat), v = .int .i64 (j : Int) ∧ j ≤ n ∧ cntI r.items + 1 ≤ gg ∧ Hid (fetM litO gg (l.drop j) r = R) ∧ Hid (FkB 1000000 r) ∧ Hid (FB w.heap.size r Ab kb wr) ∧ Hid (Below w.heap.size w wr))
  case atStart => exact ⟨k, rpR x 0 0 0 0 [], none, 0, rfl, hk, by show cntI 0 + 1 ≤ 5; decide, HR, HK, HF0, HB0⟩
  case round =>
  clear HR HK HF0 HB0
  obtain ⟨j, r, Ab, kb, rfl, hj, hg, hF, hK, hB, hW⟩ := hrel
  obtain ⟨g, rfl⟩ : ∃ g, gk = g + 1 := ⟨gk - 1, by omega⟩
  go_upto_block 2 with (fail)
  obtain ⟨o, ho⟩ : ∃ o, itemM litO (l.drop j) r = o := ⟨_, rfl⟩
  have HO := Lib.hid ho
  clear ho
  go_cut [7, 8] (fun s7 s8 wx => Mid l n w o s7 s8 wx)
  case first =>
    clear hg hF hK
    have WA := HA.out wr hW.out
    have HAW := Lib.hid WA
    obtain ⟨c0, c1, c2, c3, c4, c5, c6, c7, c8, c9⟩ := hB.out.bx.cells
    have hjn : ∀ k m, k ≤ m → m ≤ (l.drop j).length → j + k ≤ n := fun k m h1 h2 => by
      rw [List.length_drop, HN.out] at h2
      omega
    have HJN := Lib.hid hjn
    have S1 := Lib.hid (starts_any w.heap.size c n j A l [70, 76, 65, 71, 83, 32] HN.out hj hl (by decide) wr WA)
    have S2 := Lib.hid (starts_any w.heap.size c n j A l [85, 73, 68, 32] HN.out hj hl (by decide) wr WA)
    have S3 := Lib.hid (starts_any w.heap.size c n j A l [82, 70, 67, 56, 50, 50, 46, 83, 73, 90, 69, 32] HN.out hj hl (by decide) wr WA)
    have S4 := Lib.hid (starts_any w.heap.size c n j A l [66, 79, 68, 89, 91, 93, 32] HN.out hj hl (by decide) wr WA)
    have dd : ∀ k, (l.drop j).drop k = l.drop (j + k) := fun k => by rw [List.drop_drop]
    have DD := Lib.hid dd
    have hcN : ∀ k : Nat, ((j + k : Nat) : Int) = (j : Int) + (k : Int) := fun k => by omega
    have HCN := Lib.hid hcN
    have HSC := Lib.hid (fun k : Nat => show scanL l (k : Int) = (litO (l.drop k)).map (fun t => (t.1, k + t.2)) by
      unfold scanL
      rw [if_pos (by omega)]
      rfl)
    clear hcN dd hjn WA
    cases p1 : List.isPrefixOf [70, 76, 65, 71, 83, 32] (l.drop j) with
    | true =>
      have hk1 := HJN.out 6 6 (Nat.le_refl _) (pre_le p1)
      have FL := Lib.hid (flags10_any w.heap.size c n (j + 6) A l HN.out hk1 hl wr HAW.out)
      rw [show ((j + 6 : Nat) : Int) = (j : Int) + 6 from HCN.out 6] at FL
      have HI := Lib.hid (show o = (flgT (l.drop (j + 6))).map fun t => (1, { r with flags := t.1 }, t.2) by
        rw [← HO.out, itemM, if_pos p1, DD.out])
      rw [p1] at S1
      have HK7 := Lib.hid hk1
      clear p1 hk1 HO S2 S3 S4
      go_wp2_with fail
      refine S1.out.mono ?_
      rintro e w1 ⟨rfl, rfl⟩
      go_wp2_with fail
      refine FL.out.mono ?_
      rintro e w1 ⟨hp, hb1⟩
      have HB1 := Lib.hid (hB.out.below hb1)
      have HW1 := Lib.hid (below_next hW.out hb1)
      obtain ⟨d0, d1, d2, d3, d4, d5, d6, d7, d8, d9⟩ := HB1.out.bx.cells
      have z0 := Joins.unfrozen_of_block HB1.out.bx 6
      clear hb1 c0 c1 c2 c3 c4 c5 c6 c7 c8 c9 S1 FL HAW
      rcases hp with ⟨f, m, hf, hkm, hm, hT, rfl⟩ | ⟨hT, rfl⟩
      · have HT := Lib.hid hT
        have hwf : IntKind.u8.wrap (f : Int) = f := IntWalk.u8_in _ (by omega)
        clear hT hB hW
        go_wp2_with fail
        go_meet
        exact Mid.yes (HB1.out.flags f) (fb_below HW1.out) hm (by rw [HI.out, HT.out]; rfl)
      · have HT := Lib.hid hT
        have hwf : IntKind.u8.wrap 0 = 0 := rfl
        clear hT hB hW
        go_wp2_with fail
        go_meet
        have e : o = none := by rw [HI.out, HT.out]; rfl
        rw [e]
        exact Mid.no (HB1.out.flags 0) (fb_below HW1.out) 1
    | false =>
      cases p2 : List.isPrefixOf [85, 73, 68, 32] (l.drop j) with
      | true =>
        have hk1 := HJN.out 4 4 (Nat.le_refl _) (pre_le p2)
        have FL := Lib.hid (number10_any w.heap.size c n (j + 4) A l HN.out hk1 hl wr HAW.out)
        rw [show ((j + 4 : Nat) : Int) = (j : Int) + 4 from HCN.out 4] at FL
        have HI := Lib.hid (show o = (numT (l.drop (j + 4))).map fun t => (2, { r with uid := t.1 }, t.2) by
          rw [← HO.out, itemM, if_neg (by rw [p1]; decide), if_pos p2, DD.out])
        rw [p1] at S1
        rw [p2] at S2
        have HK7 := Lib.hid hk1
        clear p1 p2 hk1 HO S3 S4
        go_wp2_with fail
        refine S1.out.mono ?_
        rintro e w1 ⟨rfl, rfl⟩
        go_wp2_with fail
        refine S2.out.mono ?_
        rintro e w1 ⟨rfl, rfl⟩
        go_wp2_with fail
        refine FL.out.mono ?_
        rintro e w1 ⟨hp, rfl⟩
        have hb1 := Below.refl wr.heap.size wr
        have HB1 := Lib.hid (hB.out.below hb1)
        have HW1 := Lib.hid (below_next hW.out hb1)
        obtain ⟨d0, d1, d2, d3, d4, d5, d6, d7, d8, d9⟩ := HB1.out.bx.cells
        have z0 := Joins.unfrozen_of_block HB1.out.bx 7
        clear hb1 c0 c1 c2 c3 c4 c5 c6 c7 c8 c9 S1 S2 FL HAW
        rcases hp with ⟨f, m, hkm, hm, hT, rfl⟩ | ⟨hT, rfl⟩
        · have HT := Lib.hid hT
          clear hT hB hW
          go_wp2_with fail
          go_meet
          exact Mid.yes (HB1.out.uid f) (fb_below HW1.out) hm (by rw [HI.out, HT.out]; rfl)
        · have HT := Lib.hid hT
          clear hT hB hW
          go_wp2_with fail
          go_meet
          have e : o = none := by rw [HI.out, HT.out]; rfl
          rw [e]
          exact Mid.no (HB1.out.uid 0) (fb_below HW1.out) 2
      | false =>
        cases p3 : List.isPrefixOf [82, 70, 67, 56, 50, 50, 46, 83, 73, 90, 69, 32] (l.drop j) with
        | true =>
          have hk1 := HJN.out 12 12 (Nat.le_refl _) (pre_le p3)
          have FL := Lib.hid (number10_any w.heap.size c n (j + 12) A l HN.out hk1 hl wr HAW.out)
          rw [show ((j + 12 : Nat) : Int) = (j : Int) + 12 from HCN.out 12] at FL
          have HI := Lib.hid (show o = (numT (l.drop (j + 12))).map fun t => (4, { r with size := t.1 }, t.2) by
            rw [← HO.out, itemM, if_neg (by rw [p1]; decide), if_neg (by rw [p2]; decide), if_pos p3, DD.out])
          rw [p1] at S1
          rw [p2] at S2
          rw [p3] at S3
          have HK7 := Lib.hid hk1
          clear p1 p2 p3 hk1 HO S4
          go_wp2_with fail
          refine S1.out.mono ?_
          rintro e w1 ⟨rfl, rfl⟩
          go_wp2_with fail
          refine S2.out.mono ?_
          rintro e w1 ⟨rfl, rfl⟩
          go_wp2_with fail
          refine S3.out.mono ?_
          rintro e w1 ⟨rfl, rfl⟩
          go_wp2_with fail
          refine FL.out.mono ?_
          rintro e w1 ⟨hp, rfl⟩
          have hb1 := Below.refl wr.heap.size wr
          have HB1 := Lib.hid (hB.out.below hb1)
          have HW1 := Lib.hid (below_next hW.out hb1)
          obtain ⟨d0, d1, d2, d3, d4, d5, d6, d7, d8, d9⟩ := HB1.out.bx.cells
          have z0 := Joins.unfrozen_of_block HB1.out.bx 8
          clear hb1 c0 c1 c2 c3 c4 c5 c6 c7 c8 c9 S1 S2 S3 FL HAW
          rcases hp with ⟨f, m, hkm, hm, hT, rfl⟩ | ⟨hT, rfl⟩
          · have HT := Lib.hid hT
            clear hT hB hW
            go_wp2_with fail
            go_meet
            exact Mid.yes (HB1.out.size f) (fb_below HW1.out) hm (by rw [HI.out, HT.out]; rfl)
          · have HT := Lib.hid hT
            clear hT hB hW
            go_wp2_with fail
            go_meet
            have e : o = none := by rw [HI.out, HT.out]; rfl
            rw [e]
            exact Mid.no (HB1.out.size 0) (fb_below HW1.out) 4
        | false =>
          cases p4 : List.isPrefixOf [66, 79, 68, 89, 91, 93, 32] (l.drop j) with
          | true =>
            have hk1 := HJN.out 7 7 (Nat.le_refl _) (pre_le p4)
            have FL := Lib.hid (refScanLiteral_any w.heap.size c A l ((j + 7 : Nat) : Int) (by omega) (by omega) (by rw [HN.out]; exact hl) wr HAW.out)
            rw [HN.out] at FL
            rw [show ((j + 7 : Nat) : Int) = (j : Int) + 7 from HCN.out 7] at FL
            have HI := Lib.hid (show o = (litO (l.drop (j + 7))).map fun t => (16, { r with body := t.1 }, (l.drop (j + 7)).drop t.2) by
              rw [← HO.out, itemM, if_neg (by rw [p1]; decide), if_neg (by rw [p2]; decide), if_neg (by rw [p3]; decide), if_pos p4, DD.out])
            rw [p1] at S1
            rw [p2] at S2
            rw [p3] at S3
            rw [p4] at S4
            have HK7 := Lib.hid hk1
            clear p1 p2 p3 p4 hk1 HO
            go_wp2_with fail
            refine S1.out.mono ?_
            rintro e w1 ⟨rfl, rfl⟩
            go_wp2_with fail
            refine S2.out.mono ?_
            rintro e w1 ⟨rfl, rfl⟩
            go_wp2_with fail
            refine S3.out.mono ?_
            rintro e w1 ⟨rfl, rfl⟩
            go_wp2_with fail
            refine S4.out.mono ?_
            rintro e w1 ⟨rfl, rfl⟩
            go_wp2_with fail
            refine FL.out.mono ?_
            rintro e w1 ⟨hp, hb1⟩
            have HB1 := Lib.hid (hB.out.below hb1)
            have HW1 := Lib.hid (below_next hW.out hb1)
            obtain ⟨d0, d1, d2, d3, d4, d5, d6, d7, d8, d9⟩ := HB1.out.bx.cells
            have z0 := Joins.unfrozen_of_block HB1.out.bx 9
            clear hb1 c0 c1 c2 c3 c4 c5 c6 c7 c8 c9 S1 S2 S3 S4 FL HAW
            have HSZ := Lib.hid hB.out.under
            rw [show ((j : Int) + 7) = ((j + 7 : Nat) : Int) from (HCN.out 7).symm, HSC.out] at hp
            clear hB hW
            unfold RLPost at hp
            rcases hp with ⟨P, m, A', c', hT, rfl, hown⟩ | ⟨hT, rfl⟩
            · obtain ⟨t, ht, hPm⟩ := Option.map_eq_some_iff.1 hT
              obtain ⟨rfl, rfl⟩ := Prod.mk.inj hPm
              have HT := Lib.hid ht
              have HOW := Lib.hid (own_base9 hown HSZ.out)
              have HMN := Lib.hid (lit_le ht)
              clear hT ht hown hPm
              go_wp2_with fail
              go_meet
              refine Mid.yes (HB1.out.body HOW.out) (fb_below HW1.out) ?_ ?_
              · have h1 := HMN.out
                have h2 := HK7.out
                rw [List.length_drop, HN.out] at h1
                show (j + 7) + t.2 ≤ n
                generalize t.2 = tt at *
                omega
              · rw [HI.out, HT.out]
                simp [List.drop_drop]
            · have HT := Lib.hid (Option.map_eq_none_iff.1 hT)
              clear hT
              go_wp2_with fail
              go_meet
              have e : o = none := by rw [HI.out, HT.out]; rfl
              rw [e]
              exact Mid.no (HB1.out.body (l := []) (World.ownsRow_nil _ _ _ _)) (fb_below HW1.out) 16
          | false =>
            have HI := Lib.hid (show o = none by
              rw [← HO.out, itemM, if_neg (by rw [p1]; decide), if_neg (by rw [p2]; decide), if_neg (by rw [p3]; decide), if_neg (by rw [p4]; decide)])
            rw [p1] at S1
            rw [p2] at S2
            rw [p3] at S3
            rw [p4] at S4
            clear p1 p2 p3 p4 HO
            go_wp2_with fail
            refine S1.out.mono ?_
            rintro e w1 ⟨rfl, rfl⟩
            go_wp2_with fail
            refine S2.out.mono ?_
            rintro e w1 ⟨rfl, rfl⟩
            go_wp2_with fail
            refine S3.out.mono ?_
            rintro e w1 ⟨rfl, rfl⟩
            go_wp2_with fail
            refine S4.out.mono ?_
            rintro e w1 ⟨rfl, rfl⟩
            go_wp2_with fail
            go_meet
            rw [HI.out]
            exact Mid.no hB.out hW.out 0
  case rest =>
    obtain ⟨q, Ab1, kb1, hB1, hW1, hor⟩ := hcut
    have HB1 := Lib.hid hB1
    have HW1 := Lib.hid hW1
    have HSP := Lib.hid (fun W (h : Below w.heap.size w W) => HA.out W h)
    clear hB hW hB1 hW1 HA
    rcases hor with ⟨ho, i, rfl, rfl⟩ | ⟨i, m, hm, ho, rfl, rfl⟩
    · have HR := Lib.hid (show rsZero = R by
        have := hF.out
        rw [fetM, HO.out, ho] at this
        exact this)
      clear ho hF hK HSP hg HO
      have HZ := Lib.hid (show wc.heap[w.heap.size + 1]? = some (.cells #[.int .i64 0, .int .u32 0, .string ⟨#[]⟩, .int .i64 0, .string ⟨#[]⟩, .int .i64 0, .int .u8 0, .int .u32 0, .int .u32 0, .slice none 0 0] 27 (0, 0)) from HB1.out.z)
      obtain ⟨y0, y1, y2, y3, y4, y5, y6, y7, y8, y9⟩ := cells10 HZ.out
      have z0 := Joins.unfrozen_of_block HZ.out 0
      have z1 := Joins.unfrozen_of_block HZ.out 1
      have z2 := Joins.unfrozen_of_block HZ.out 2
      have z3 := Joins.unfrozen_of_block HZ.out 3
      have z4 := Joins.unfrozen_of_block HZ.out 4
      have z5 := Joins.unfrozen_of_block HZ.out 5
      have z6 := Joins.unfrozen_of_block HZ.out 6
      have z7 := Joins.unfrozen_of_block HZ.out 7
      have z8 := Joins.unfrozen_of_block HZ.out 8
      have z9 := Joins.unfrozen_of_block HZ.out 9
      go_wp2_with fail
      change bodyPost _ _ _ _ _ (stR wc (w.heap.size + 1) (.int .i64 0) (.int .u32 0) (.string ⟨#[]⟩) (.int .i64 0) (.string ⟨#[]⟩) (.int .i64 0) (.int .u8 0) (.int .u32 0) (.int .u32 0) (.slice none 0 0))
      have hq := stR_block HZ.out (.int .i64 0) (.int .u32 0) (.string ⟨#[]⟩) (.int .i64 0) (.string ⟨#[]⟩) (.int .i64 0) (.int .u8 0) (.int .u32 0) (.int .u32 0) (.slice none 0 0)
      have HG := Lib.hid (stR_grown wc (w.heap.size + 1) (.int .i64 0) (.int .u32 0) (.string ⟨#[]⟩) (.int .i64 0) (.string ⟨#[]⟩) (.int .i64 0) (.int .u8 0) (.int .u32 0) (.int .u32 0) (.slice none 0 0))
      have HB9 := Lib.hid (below_st HW1.out HG.out (Nat.le_add_right _ _))
      clear y0 y1 y2 y3 y4 y5 y6 y7 y8 y9 z0 z1 z2 z3 z4 z5 z6 z7 z8 z9
      generalize stR wc (w.heap.size + 1) (.int .i64 0) (.int .u32 0) (.string ⟨#[]⟩) (.int .i64 0) (.string ⟨#[]⟩) (.int .i64 0) (.int .u8 0) (.int .u32 0) (.int .u32 0) (.slice none 0 0) = w9 at *
      obtain ⟨p0, p1, p2, p3, p4, p5, p6, p7, p8, p9⟩ := cells10 hq
      refine bodyPost_ret (v := rsV rsZero none 0) (by simp [results, Tryz.results44, go_sem, p0, p1, p2, p3, p4, p5, p6, p7, p8, p9]; rfl) rfl (FtPo.zero HR.out HB9.out)
    · obtain ⟨hi, ht, hit, hq⟩ := item_fk (N := 1000000) (by rw [List.length_drop, HN.out]; omega) hK.out (HO.out.trans ho)
      obtain ⟨F1, F2, F3, F4⟩ := fet_step hF.out (HO.out.trans ho) hit
      have HIT := Lib.hid hit
      have HI := Lib.hid hi
      have HQ := Lib.hid hq
      have HG := Lib.hid hg
      have d0 : decide ((m : Int) < 0) = false := by simp
      clear ho hF hK hg hi ht hit hq HO
      have F1 := Lib.hid F1
      have F2 := Lib.hid F2
      have F3 := Lib.hid F3
      have F4 := Lib.hid F4
      obtain ⟨c0, c1, c2, c3, c4, c5, c6, c7, c8, c9⟩ := HB1.out.bx.cells
      have f5 := Joins.unfrozen_of_block HB1.out.bx 5
      by_cases hle : i ≤ q.items
      · have d1 : decide (i ≤ q.items) = true := by simpa using hle
        have HR := Lib.hid (F1.out hle).symm
        clear F1 F2 F3 F4 hle
        have HZ := Lib.hid (show wc.heap[w.heap.size + 1]? = some (.cells #[.int .i64 0, .int .u32 0, .string ⟨#[]⟩, .int .i64 0, .string ⟨#[]⟩, .int .i64 0, .int .u8 0, .int .u32 0, .int .u32 0, .slice none 0 0] 27 (0, 0)) from HB1.out.z)
        obtain ⟨y0, y1, y2, y3, y4, y5, y6, y7, y8, y9⟩ := cells10 HZ.out
        have z0 := Joins.unfrozen_of_block HZ.out 0
        have z1 := Joins.unfrozen_of_block HZ.out 1
        have z2 := Joins.unfrozen_of_block HZ.out 2
        have z3 := Joins.unfrozen_of_block HZ.out 3
        have z4 := Joins.unfrozen_of_block HZ.out 4
        have z5 := Joins.unfrozen_of_block HZ.out 5
        have z6 := Joins.unfrozen_of_block HZ.out 6
        have z7 := Joins.unfrozen_of_block HZ.out 7
        have z8 := Joins.unfrozen_of_block HZ.out 8
        have z9 := Joins.unfrozen_of_block HZ.out 9
        go_wp2_with fail
        change bodyPost _ _ _ _ _ (stR wc (w.heap.size + 1) (.int .i64 0) (.int .u32 0) (.string ⟨#[]⟩) (.int .i64 0) (.string ⟨#[]⟩) (.int .i64 0) (.int .u8 0) (.int .u32 0) (.int .u32 0) (.slice none 0 0))
        have hq := stR_block HZ.out (.int .i64 0) (.int .u32 0) (.string ⟨#[]⟩) (.int .i64 0) (.string ⟨#[]⟩) (.int .i64 0) (.int .u8 0) (.int .u32 0) (.int .u32 0) (.slice none 0 0)
        have HG := Lib.hid (stR_grown wc (w.heap.size + 1) (.int .i64 0) (.int .u32 0) (.string ⟨#[]⟩) (.int .i64 0) (.string ⟨#[]⟩) (.int .i64 0) (.int .u8 0) (.int .u32 0) (.int .u32 0) (.slice none 0 0))
        have HB9 := Lib.hid (below_st HW1.out HG.out (Nat.le_add_right _ _))
        clear y0 y1 y2 y3 y4 y5 y6 y7 y8 y9 z0 z1 z2 z3 z4 z5 z6 z7 z8 z9
        generalize stR wc (w.heap.size + 1) (.int .i64 0) (.int .u32 0) (.string ⟨#[]⟩) (.int .i64 0) (.string ⟨#[]⟩) (.int .i64 0) (.int .u8 0) (.int .u32 0) (.int .u32 0) (.slice none 0 0) = w9 at *
        obtain ⟨p0, p1, p2, p3, p4, p5, p6, p7, p8, p9⟩ := cells10 hq
        refine bodyPost_ret (v := rsV rsZero none 0) (by simp [results, Tryz.results44, go_sem, p0, p1, p2, p3, p4, p5, p6, p7, p8, p9]; rfl) rfl (FtPo.zero HR.out HB9.out)
      · have d1 : decide (i ≤ q.items) = false := by simpa using hle
        have HLE := Lib.hid hle
        have F2 := Lib.hid (F2.out hle)
        have F3 := Lib.hid (F3.out hle)
        have F4 := Lib.hid (F4.out hle)
        have HB2 := Lib.hid (HB1.out.items (bits BinOp.or IntKind.i64 q.items i))
        have HW2 := Lib.hid (fb_below HW1.out (i := 5) (v := .int .i64 (bits BinOp.or IntKind.i64 q.items i)))
        clear hle F1
        obtain ⟨w2, hw2⟩ : ∃ w2, wc.setCell ⟨w.heap.size, 5, none⟩ (.int .i64 (bits BinOp.or IntKind.i64 q.items i)) = w2 := ⟨_, rfl⟩
        rw [hw2] at HB2 HW2
        have S1 := Lib.hid (starts_any w.heap.size c n m A l [41, 13, 10] HN.out hm hl (by decide) w2 (HSP.out w2 HW2.out))
        have S2 := Lib.hid (starts_any w.heap.size c n m A l [32] HN.out hm hl (by decide) w2 (HSP.out w2 HW2.out))
        go_upto_region 28 with (fail)
        clear hw2 c0 c1 c2 c3 c4 c5 c6 c7 c8 c9 f5 d0 d1 HB1 HW1
        obtain ⟨c0, c1, c2, c3, c4, c5, c6, c7, c8, c9⟩ := HB2.out.bx.cells
        cases p1 : List.isPrefixOf [41, 13, 10] (l.drop m) with
        | true =>
          have HR := Lib.hid (F2.out p1).symm
          rw [p1] at S1
          clear p1 F2 F3 F4 S2
          generalize bits BinOp.or IntKind.i64 q.items i = it at *
          generalize hv2 : ByteArray.mk q.tag.toArray = v2 at *
          generalize hv4 : ByteArray.mk q.text.toArray = v4 at *
          have HV2 := Lib.hid hv2
          have HV4 := Lib.hid hv4
          clear hv2 hv4
          have HZ := Lib.hid (show w2.heap[w.heap.size + 1]? = some (.cells #[.int .i64 0, .int .u32 0, .string ⟨#[]⟩, .int .i64 0, .string ⟨#[]⟩, .int .i64 0, .int .u8 0, .int .u32 0, .int .u32 0, .slice none 0 0] 27 (0, 0)) from HB2.out.z)
          obtain ⟨y0, y1, y2, y3, y4, y5, y6, y7, y8, y9⟩ := cells10 HZ.out
          have z0 := Joins.unfrozen_of_block HZ.out 0
          have z1 := Joins.unfrozen_of_block HZ.out 1
          have z2 := Joins.unfrozen_of_block HZ.out 2
          have z3 := Joins.unfrozen_of_block HZ.out 3
          have z4 := Joins.unfrozen_of_block HZ.out 4
          have z5 := Joins.unfrozen_of_block HZ.out 5
          have z6 := Joins.unfrozen_of_block HZ.out 6
          have z7 := Joins.unfrozen_of_block HZ.out 7
          have z8 := Joins.unfrozen_of_block HZ.out 8
          have z9 := Joins.unfrozen_of_block HZ.out 9
          go_wp2_with fail
          refine S1.out.mono ?_
          rintro e w3 ⟨rfl, rfl⟩
          go_wp2_with fail
          change bodyPost _ _ _ _ _ (stR w2 (w.heap.size + 1) (.int .i64 q.kind) (.int .u32 (q.n : Int)) (.string v2) (.int .i64 q.status) (.string v4) (.int .i64 it) (.int .u8 (q.flags : Int)) (.int .u32 (q.uid : Int)) (.int .u32 (q.size : Int)) (.slice Ab1 q.body.length kb1))
          have hq := stR_block HZ.out (.int .i64 q.kind) (.int .u32 (q.n : Int)) (.string v2) (.int .i64 q.status) (.string v4) (.int .i64 it) (.int .u8 (q.flags : Int)) (.int .u32 (q.uid : Int)) (.int .u32 (q.size : Int)) (.slice Ab1 q.body.length kb1)
          have HGG := Lib.hid (stR_grown w2 (w.heap.size + 1) (.int .i64 q.kind) (.int .u32 (q.n : Int)) (.string v2) (.int .i64 q.status) (.string v4) (.int .i64 it) (.int .u8 (q.flags : Int)) (.int .u32 (q.uid : Int)) (.int .u32 (q.size : Int)) (.slice Ab1 q.body.length kb1))
          have HB9 := Lib.hid (below_st HW2.out HGG.out (Nat.le_add_right _ _))
          have HOW := Lib.hid (own_base9 (b := w.heap.size) (own_past9 HB2.out.own HGG.out (by omega)) (by omega))
          clear y0 y1 y2 y3 y4 y5 y6 y7 y8 y9 z0 z1 z2 z3 z4 z5 z6 z7 z8 z9
          generalize stR w2 (w.heap.size + 1) (.int .i64 q.kind) (.int .u32 (q.n : Int)) (.string v2) (.int .i64 q.status) (.string v4) (.int .i64 it) (.int .u8 (q.flags : Int)) (.int .u32 (q.uid : Int)) (.int .u32 (q.size : Int)) (.slice Ab1 q.body.length kb1) = w9 at *
          obtain ⟨p0, p1, p2, p3, p4, p5, p6, p7, p8, p9⟩ := cells10 hq
          refine bodyPost_ret (v := .agg #[.int .i64 q.kind, .int .u32 (q.n : Int), .string v2, .int .i64 q.status, .string v4, .int .i64 it, .int .u8 (q.flags : Int), .int .u32 (q.uid : Int), .int .u32 (q.size : Int), .slice Ab1 q.body.length kb1]) (by simp [results, Tryz.results44, go_sem, p0, p1, p2, p3, p4, p5, p6, p7, p8, p9]) rfl ?_
          obtain rfl := HV2.out
          obtain rfl := HV4.out
          exact FtPo.of HR.out HOW.out HB9.out
        | false =>
          rw [p1] at S1
          cases p2 : List.isPrefixOf [32] (l.drop m) with
          | true =>
            have HR := Lib.hid (F3.out p1 p2)
            have hm1 : m + 1 ≤ n := by
              have := pre_le p2
              rw [List.length_drop, HN.out] at this
              simp at this
              omega
            have HFK := Lib.hid (show FkB 1000000 { q with items := bits BinOp.or IntKind.i64 q.items i } from by
              have h0 := HQ.out
              have ho := or_ge' h0.items HI.out
              exact ⟨⟨h0.ok.kind, h0.ok.n, h0.ok.status, by show -9223372036854775808 ≤ bits BinOp.or IntKind.i64 q.items i ∧ bits BinOp.or IntKind.i64 q.items i ≤ 9223372036854775807; have := h0.items; omega, h0.ok.flags, h0.ok.uid, h0.ok.size⟩, h0.tag, h0.text, h0.body, by show 0 ≤ bits BinOp.or IntKind.i64 q.items i ∧ bits BinOp.or IntKind.i64 q.items i ≤ 31; have := h0.items; omega⟩)
            have hcn : cntI (bits BinOp.or IntKind.i64 q.items i) + 1 ≤ g := by
              have h1 := cntI_lt (it := q.items) (it' := bits BinOp.or IntKind.i64 q.items i) HI.out (by have := HLE.out; omega) (or_ge' HQ.out.items HI.out).2.1
              have h2 := HG.out
              rw [← HIT.out] at h2
              omega
            have HCN := Lib.hid hcn
            rw [p2] at S2
            clear p1 p2 F2 F3 F4 hcn
            go_wp2_with fail
            refine S1.out.mono ?_
            rintro e w3 ⟨rfl, rfl⟩
            go_wp2_with fail
            refine S2.out.mono ?_
            rintro e w3 ⟨rfl, rfl⟩
            go_wp2_with fail
            go_roundg g
            case measure => omega
            case rel => exact ⟨m + 1, _, Ab1, kb1, by go_num, hm1, HCN.out, Lib.hid (by rw [← List.drop_drop]; exact HR.out), HFK, HB2, HW2⟩
          | false =>
            have HR := Lib.hid (F4.out p1 p2).symm
            rw [p2] at S2
            clear p1 p2 F2 F3 F4
            have HZ := Lib.hid (show w2.heap[w.heap.size + 1]? = some (.cells #[.int .i64 0, .int .u32 0, .string ⟨#[]⟩, .int .i64 0, .string ⟨#[]⟩, .int .i64 0, .int .u8 0, .int .u32 0, .int .u32 0, .slice none 0 0] 27 (0, 0)) from HB2.out.z)
            obtain ⟨y0, y1, y2, y3, y4, y5, y6, y7, y8, y9⟩ := cells10 HZ.out
            have z0 := Joins.unfrozen_of_block HZ.out 0
            have z1 := Joins.unfrozen_of_block HZ.out 1
            have z2 := Joins.unfrozen_of_block HZ.out 2
            have z3 := Joins.unfrozen_of_block HZ.out 3
            have z4 := Joins.unfrozen_of_block HZ.out 4
            have z5 := Joins.unfrozen_of_block HZ.out 5
            have z6 := Joins.unfrozen_of_block HZ.out 6
            have z7 := Joins.unfrozen_of_block HZ.out 7
            have z8 := Joins.unfrozen_of_block HZ.out 8
            have z9 := Joins.unfrozen_of_block HZ.out 9
            go_wp2_with fail
            refine S1.out.mono ?_
            rintro e w3 ⟨rfl, rfl⟩
            go_wp2_with fail
            refine S2.out.mono ?_
            rintro e w3 ⟨rfl, rfl⟩
            go_wp2_with fail
            change bodyPost _ _ _ _ _ (stR w2 (w.heap.size + 1) (.int .i64 0) (.int .u32 0) (.string ⟨#[]⟩) (.int .i64 0) (.string ⟨#[]⟩) (.int .i64 0) (.int .u8 0) (.int .u32 0) (.int .u32 0) (.slice none 0 0))
            have hq := stR_block HZ.out (.int .i64 0) (.int .u32 0) (.string ⟨#[]⟩) (.int .i64 0) (.string ⟨#[]⟩) (.int .i64 0) (.int .u8 0) (.int .u32 0) (.int .u32 0) (.slice none 0 0)
            have HGG := Lib.hid (stR_grown w2 (w.heap.size + 1) (.int .i64 0) (.int .u32 0) (.string ⟨#[]⟩) (.int .i64 0) (.string ⟨#[]⟩) (.int .i64 0) (.int .u8 0) (.int .u32 0) (.int .u32 0) (.slice none 0 0))
            have HB9 := Lib.hid (below_st HW2.out HGG.out (Nat.le_add_right _ _))
            clear y0 y1 y2 y3 y4 y5 y6 y7 y8 y9 z0 z1 z2 z3 z4 z5 z6 z7 z8 z9
            generalize stR w2 (w.heap.size + 1) (.int .i64 0) (.int .u32 0) (.string ⟨#[]⟩) (.int .i64 0) (.string ⟨#[]⟩) (.int .i64 0) (.int .u8 0) (.int .u32 0) (.int .u32 0) (.slice none 0 0) = w9 at *
            obtain ⟨p0, p1, p2, p3, p4, p5, p6, p7, p8, p9⟩ := cells10 hq
            refine bodyPost_ret (v := rsV rsZero none 0) (by simp [results, Tryz.results44, go_sem, p0, p1, p2, p3, p4, p5, p6, p7, p8, p9]; rfl) rfl (FtPo.zero HR.out HB9.out)
end Go.Proofs.YtpoejnajnaolpaaGreatDoor
