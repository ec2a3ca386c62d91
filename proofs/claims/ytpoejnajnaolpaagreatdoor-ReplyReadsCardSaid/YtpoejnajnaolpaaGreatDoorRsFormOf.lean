/- resp: formOf. -/
import Derived.Test.YtpoejnajnaolpaaGreatDoorGh
import Derived.Test.YtpoejnajnaolpaaGreatDoorRsSame
import Derived.Test.YtpoejnajnaolpaaGreatDoorRsFoS
import Derived.RegionTactic
import Derived.Deep.RegionHeld3
import Derived.Deep.Cut
import Derived.Deep.DeepCutAuto
namespace Go.Proofs.YtpoejnajnaolpaaGreatDoor
open Go.RowKit Go.Maps

theorem belSet9 {B : Nat} {a b : World} {i o : Nat} (h : Below B a b) (hi : B ≤ i) (v : Value) : Below B a (b.setCell ⟨i, o, none⟩ v) := h.setCell (p := ⟨i, o, none⟩) hi v
/-- A form stored whole. -/
def st3 (W : World) (r : Nat) (a0 a1 a2 : Value) : World := ((W.setCell ⟨r, 0, none⟩ a0).setCell ⟨r, 1, none⟩ a1).setCell ⟨r, 2, none⟩ a2
theorem st3_block {W : World} {r : Nat} {c0 c1 c2 : Value} {T : TypeId} (h : W.heap[r]? = some (.cells #[c0, c1, c2] T (0, 0))) (a0 a1 a2 : Value) : (st3 W r a0 a1 a2).heap[r]? = some (.cells #[a0, a1, a2] T (0, 0)) := by
  have h0 : (W.setCell ⟨r, 0, none⟩ a0).heap[r]? = some (.cells #[a0, c1, c2] T (0, 0)) := Joins.block_setCell (i := 0) h a0
  have h1 : ((W.setCell ⟨r, 0, none⟩ a0).setCell ⟨r, 1, none⟩ a1).heap[r]? = some (.cells #[a0, a1, c2] T (0, 0)) := Joins.block_setCell (i := 1) h0 a1
  have h2 : (((W.setCell ⟨r, 0, none⟩ a0).setCell ⟨r, 1, none⟩ a1).setCell ⟨r, 2, none⟩ a2).heap[r]? = some (.cells #[a0, a1, a2] T (0, 0)) := Joins.block_setCell (i := 2) h1 a2
  exact h2
theorem st3_grown (W : World) (r : Nat) (a0 a1 a2 : Value) : W.grownBy (st3 W r a0 a1 a2) (some r) := grown_set (grown_set (grown_set (World.grownBy.refl W (some r)) 0 a0) 1 a1) 2 a2
theorem BoxOk.other {k : Int} {o : Option Nat} {W W' : World} {b : Nat} {cs : Array Value} {z : Nat × Nat} (h : BoxOk k o W) (hb : W.heap[b]? = some (.cells cs 62 z)) (hg : W.grownBy W' (some b)) : BoxOk k o W' := by
  rcases h with h | ⟨b', h1, h2, h3⟩
  · exact .inl h
  · refine .inr ⟨b', h1, h2, (hg.block b' (Array.getElem?_eq_some_iff.1 h3).1 (fun e => ?_)).trans h3⟩
    obtain rfl : b' = b := Option.some.inj e
    rw [h3] at hb
    simp at hb
theorem BoxOk.old {k : Int} {o : Option Nat} {w0 W W' : World} {b : Nat} {cs : Array Value} {z : Nat × Nat} (h : BoxOk k o W) (hw : Below w0.heap.size w0 W) (hb : w0.heap[b]? = some (.cells cs 62 z)) (hg : W.grownBy W' (some b)) : BoxOk k o W' :=
  h.other ((hw.block b (Array.getElem?_eq_some_iff.1 hb).1).trans hb) hg
theorem cells3 {W : World} {g : Nat} {a0 a1 a2 : Value} {T : TypeId} {z : Nat × Nat} (h : W.heap[g]? = some (.cells #[a0, a1, a2] T z)) : W.cell? ⟨g, 0, none⟩ = some a0 ∧ W.cell? ⟨g, 1, none⟩ = some a1 ∧ W.cell? ⟨g, 2, none⟩ = some a2 :=
  ⟨cell_of_row _ _ 0 _ _ _ h, cell_of_row _ _ 1 _ _ _ h, cell_of_row _ _ 2 _ _ _ h⟩
theorem ow_post {r2 : RI} {wc W : World} {e' : Ending} {w' : World} (hW : Below wc.heap.size wc W) (q : OwnPost r2 W e' w') : ∃ A' k', e' = .returned (rsV r2 A' k') ∧ Below wc.heap.size wc w' ∧ ByAt w'.heap.size w' A' k' r2.body := by
  obtain ⟨A', k', h1, h2, h3⟩ := q
  exact ⟨A', k', h1, below_next hW h3, h2.here⟩
/-- The slice that 'own' returns. -/
def ownA (r : RI) (A : Option Addr) : Option Addr := if r.kind = 4 then (if (bits BinOp.and IntKind.i64 r.items 16 == 0) = true then none else A) else none
def ownK (r : RI) (k : Nat) : Nat := if r.kind = 4 then (if (bits BinOp.and IntKind.i64 r.items 16 == 0) = true then 0 else k) else 0
theorem own_det (r : RI) (A : Option Addr) (k : Nat) (w : World) :
    Calls Tryz.prog (ownF r.kind) #[rsV r A k] w fun e w' => e = .returned (rsV (rsOwn r) (ownA r A) (ownK r k)) ∧ Below w.heap.size w w' := by
  unfold ownF rsOwn ownA ownK
  by_cases h1 : r.kind = 1 ∨ r.kind = 2 ∨ r.kind = 3
  · rw [if_pos h1, if_pos h1, if_neg (by omega), if_neg (by omega)]
    exact count1_go r.kind r.n r.status r.items r.flags r.uid r.size ⟨r.tag.toArray⟩ ⟨r.text.toArray⟩ A r.body.length k w
  rw [if_neg h1, if_neg h1]
  by_cases h4 : r.kind = 4
  · rw [if_pos h4, if_pos h4, if_pos h4, if_pos h4]
    refine (fetched1_go r.kind r.n r.status r.items r.flags r.uid r.size ⟨r.tag.toArray⟩ ⟨r.text.toArray⟩ A r.body.length k _ _ _ _ rfl rfl rfl rfl _ _ _ _ _ _ (Lib.hid ⟨rfl, rfl, rfl, rfl, rfl, rfl⟩) w).mono fun e w' ⟨he, hb⟩ => ⟨?_, hb⟩
    rw [he]
    unfold rsV rsAmong rsBit bne
    generalize (bits BinOp.and IntKind.i64 r.items 1 == 0) = q1
    generalize (bits BinOp.and IntKind.i64 r.items 2 == 0) = q2
    generalize (bits BinOp.and IntKind.i64 r.items 4 == 0) = q4
    generalize (bits BinOp.and IntKind.i64 r.items 16 == 0) = q16
    cases q1 <;> cases q2 <;> cases q4 <;> cases q16 <;> rfl
  rw [if_neg h4, if_neg h4, if_neg h4, if_neg h4]
  split
  · exact flags1_go r.kind r.n r.status r.items r.flags r.uid r.size ⟨r.tag.toArray⟩ ⟨r.text.toArray⟩ A r.body.length k w
  split
  · exact tagged1_go r.kind r.n r.status r.items r.flags r.uid r.size ⟨r.tag.toArray⟩ ⟨r.text.toArray⟩ A r.body.length k w
  · exact text1_go r.kind r.n r.status r.items r.flags r.uid r.size ⟨r.tag.toArray⟩ ⟨r.text.toArray⟩ A r.body.length k w
theorem own_by {r : RI} {A : Option Addr} {k : Nat} {w : World} (hA : ByAt w.heap.size w A k r.body) : ByAt w.heap.size w (ownA r A) (ownK r k) (rsOwn r).body := by
  unfold ownA ownK rsOwn
  by_cases h1 : r.kind = 1 ∨ r.kind = 2 ∨ r.kind = 3
  · rw [if_pos h1]
    exact ByAt.nil _ _ _ _
  rw [if_neg h1]
  by_cases h4 : r.kind = 4
  · rw [if_pos h4, if_pos h4, if_pos h4]
    unfold rsAmong rsBit bne
    generalize (bits BinOp.and IntKind.i64 r.items 16 == 0) = q16
    cases q16
    · exact hA
    · exact ByAt.nil _ _ _ _
  rw [if_neg h4, if_neg h4, if_neg h4]
  split
  · exact ByAt.nil _ _ _ _
  split <;> exact ByAt.nil _ _ _ _
theorem load_own {W : World} {b i : Nat} {f : Fn} {cp cq : Array Value} (h : W.cell? ⟨b, i, none⟩ = some (.func f cp cq)) : (Instr.loadAt 60 (.pointer (some ⟨b, i, none⟩))).run Tryz.prog W = .ok (.func f cp cq) W := by
  simp [go_sem, h]
theorem load_fit {W : World} {b i : Nat} {f : Fn} {cp cq : Array Value} (h : W.cell? ⟨b, i, none⟩ = some (.func f cp cq)) : (Instr.loadAt 39 (.pointer (some ⟨b, i, none⟩))).run Tryz.prog W = .ok (.func f cp cq) W := by
  simp [go_sem, h]
theorem rest_keep {w0 b4 : Nat} {r : RI} {A : Option Addr} {k : Nat} {wc : World} {v0 v1 v2 : Value} {T : TypeId} {z : Nat × Nat} (h : RsBox w0 r A k wc) (hF : wc.heap[b4]? = some (.cells #[v0, v1, v2] T z)) :
    ∀ W, Below wc.heap.size wc W → W.cell? ⟨w0, 0, none⟩ = some (.int .i64 r.kind) ∧ W.cell? ⟨w0, 1, none⟩ = some (.int .u32 (r.n : Int)) ∧ W.cell? ⟨w0, 2, none⟩ = some (.string ⟨r.tag.toArray⟩) ∧ W.cell? ⟨w0, 3, none⟩ = some (.int .i64 r.status) ∧ W.cell? ⟨w0, 4, none⟩ = some (.string ⟨r.text.toArray⟩) ∧ W.cell? ⟨w0, 5, none⟩ = some (.int .i64 r.items) ∧ W.cell? ⟨w0, 6, none⟩ = some (.int .u8 (r.flags : Int)) ∧ W.cell? ⟨w0, 7, none⟩ = some (.int .u32 (r.uid : Int)) ∧ W.cell? ⟨w0, 8, none⟩ = some (.int .u32 (r.size : Int)) ∧ W.cell? ⟨w0, 9, none⟩ = some (.slice A r.body.length k) ∧ W.cell? ⟨b4, 0, none⟩ = some v0 ∧ W.cell? ⟨b4, 1, none⟩ = some v1 ∧ Below wc.heap.size wc W := fun W hW => by
  have hq := (hW.block b4 (Array.getElem?_eq_some_iff.1 hF).1).trans hF
  obtain ⟨x0, x1, x2, x3, x4, x5, x6, x7, x8, x9⟩ := (h.below hW).cells
  exact ⟨x0, x1, x2, x3, x4, x5, x6, x7, x8, x9, cell_of_row _ _ 0 _ _ _ hq, cell_of_row _ _ 1 _ _ _ hq, hW⟩
/-- What formOf returns. -/
def FoPost (r : RI) (w : World) (e : Ending) (w' : World) : Prop :=
  (rsOk r = true ∧ ∃ o, e = .returned (.tuple #[frV (ownF r.kind) (fitF r.kind) (lineF r.kind) o, .bool true]) ∧ BoxOk r.kind o w' ∧ Below w.heap.size w w') ∨
  (rsOk r = false ∧ e = .returned (.tuple #[.agg #[.nilFunc, .nilFunc, .nilFunc], .bool false]) ∧ Below w.heap.size w w')
/-- What forms and the look-up in its map yield. -/
def LkPost (k : Int) (v : Value) (B : Nat) (w0 W : World) (e : Ending) (w' : World) : Prop :=
  ∃ m o, e = .returned (.map (some m)) ∧ (Instr.lookup 78 (.map (some m)) (.int .i64 k) true).run Tryz.prog w' = .ok (.tuple #[.agg #[.func (.func (ownF k)) #[] #[], .func (.func (fitF k)) #[] #[], .func (.func (lineF k)) #[] (capO o)], v]) w' ∧ (∀ z, (Instr.lookup 78 (.map (some m)) (.int .i64 k) true).run Tryz.prog (w'.alloc z) = .ok (.tuple #[.agg #[.func (.func (ownF k)) #[] #[], .func (.func (fitF k)) #[] #[], .func (.func (lineF k)) #[] (capO o)], v]) (w'.alloc z)) ∧ BoxOk k o w' ∧ Below W.heap.size W w' ∧ Below B w0 w'
theorem lk_yes (k : Int) (h1 : 1 ≤ k) (h2 : k ≤ 10) (w0 W : World) (hW : Below w0.heap.size w0 W) : Calls Tryz.prog 50 #[] W (LkPost k (.bool true) w0.heap.size w0 W) :=
  (forms_any W).mono fun e w' ⟨b1, b2, b3, b6, b7, b8, b10, he, ho, hw, hb⟩ => by
    obtain ⟨o, h3, h4, h5⟩ := look_frm ho hw k h1 h2
    exact ⟨_, o, he, h3, fun z => h4 _ (below_al _ z), h5, hb, below_next hW hb⟩

set_option maxRecDepth 100000 in
set_option maxHeartbeats 4000000 in
theorem formOf_in (r : RI) (h1 : 1 ≤ r.kind) (h2 : r.kind ≤ 10) (hr : RIok r) (hs : RIsm r) (A : Option Addr) (k : Nat) (w : World) (hA : ByAt w.heap.size w A k r.body) :
    Calls Tryz.prog 33 #[rsV r A k] w (FoPost r w) := by
  have B0 := Lib.hid (below_2box w (.cells #[.int .i64 r.kind, .int .u32 (r.n : Int), .string ⟨r.tag.toArray⟩, .int .i64 r.status, .string ⟨r.text.toArray⟩, .int .i64 r.items, .int .u8 (r.flags : Int), .int .u32 (r.uid : Int), .int .u32 (r.size : Int), .slice A r.body.length k] 27) (.cells #[.nilFunc, .nilFunc, .nilFunc] 62))
  have BX := Lib.hid ((RsBox.new w r A k).below (below_al _ (.cells #[.nilFunc, .nilFunc, .nilFunc] 62)))
  have HK := Lib.hid (show 1 ≤ r.kind ∧ r.kind ≤ 10 from ⟨h1, h2⟩)
  unfold rsV
  generalize hW1 : (w.alloc (.cells #[.int .i64 r.kind, .int .u32 (r.n : Int), .string ⟨r.tag.toArray⟩, .int .i64 r.status, .string ⟨r.text.toArray⟩, .int .i64 r.items, .int .u8 (r.flags : Int), .int .u32 (r.uid : Int), .int .u32 (r.size : Int), .slice A r.body.length k] 27)).alloc (.cells #[.nilFunc, .nilFunc, .nilFunc] 62) = w1 at *
  have HW1 := Lib.hid hW1
  have FM := Lib.hid (fun W (hW : Below w1.heap.size w1 W) => lk_yes r.kind h1 h2 w1 W hW)
  obtain ⟨x0, -, -, -, -, -, -, -, -, -⟩ := BX.out.cells
  have hlt := BX.out.lt
  have HBW := Lib.hid (show ∀ W, Below w1.heap.size w1 W → W.cell? ⟨w.heap.size, 0, none⟩ = some (.int .i64 r.kind) ∧ Below w1.heap.size w1 W from fun W hW => ⟨(hW.cell (p := ⟨w.heap.size, 0, none⟩) hlt).trans x0, hW⟩)
  have HL1 := Lib.hid (show w.heap.size + 1 < w1.heap.size by rw [← hW1]; simp)
  have HR1 := Lib.hid (show w1.heap[w.heap.size + 1]? = some (.cells #[.nilFunc, .nilFunc, .nilFunc] 62 (0, 0)) by
    rw [← hW1]
    have := heap_alloc_new (w.alloc (.cells #[.int .i64 r.kind, .int .u32 (r.n : Int), .string ⟨r.tag.toArray⟩, .int .i64 r.status, .string ⟨r.text.toArray⟩, .int .i64 r.items, .int .u8 (r.flags : Int), .int .u32 (r.uid : Int), .int .u32 (r.size : Int), .slice A r.body.length k] 27)) (.cells #[.nilFunc, .nilFunc, .nilFunc] 62)
    rwa [World.size_alloc] at this)
  clear hW1 x0 hlt h1 h2
  go_enter Tryz.func33, Tryz.ntmps33
  go_upto_region 1 with (fail)
  rw [HW1.out]
  go_cut [4, 5] (fun s4 s5 wx => ∃ b4 o, s4 = .pointer (some ⟨b4, 0, none⟩) ∧ s5 = .bool true ∧ Hid (wx.heap[b4]? = some (.cells #[.func (.func (ownF r.kind)) #[] #[], .func (.func (fitF r.kind)) #[] #[], .func (.func (lineF r.kind)) #[] (capO o)] 62 (0, 0))) ∧ Hid (BoxOk r.kind o wx) ∧ Hid (Below w1.heap.size w1 wx))
  case first =>
    go_region_held3 (fun w' => w'.cell? ⟨w.heap.size, 0, none⟩ = some (.int .i64 r.kind) ∧ Below w1.heap.size w1 w')
      ((refine HBW.out _ ?_; repeat (first | assumption | exact Below.refl _ _ | refine belDrawN ?_ _ | refine belDraw ?_ | refine belAlloc ?_ _ | refine belSet9 ?_ (by first | exact Nat.le_refl _ | omega) _)))
      ((go_at_call 50; refine (FM.out _ (by repeat (first | assumption | exact Below.refl _ _ | refine belDrawN ?_ _ | refine belDraw ?_ | refine belAlloc ?_ _))).mono ?_; rintro e' w5 ⟨m, o, rfl, hl, hl2, hbx, hbW, hb5⟩; obtain ⟨hc, hf⟩ := bcell hbW; have hz5 := hbW.size; try rw [World.size_alloc] at hz5))
    all_goals
      go_wp2_with fail
      go_meet
      first
        | exact ⟨w5.heap.size, o, rfl, rfl, Lib.hid (heap_alloc_new w5 _), Lib.hid (hbx.below (below_al w5 _)), Lib.hid (below_next hb5 (below_al w5 _))⟩
        | (have hq := (hbW.block w1.heap.size (by simp)).trans (heap_alloc_new _ _)
           exact ⟨w1.heap.size, o, rfl, rfl, Lib.hid (st3_block hq _ _ _), Lib.hid (hbx.other hq (st3_grown w5 w1.heap.size (.func (.func (ownF r.kind)) #[] #[]) (.func (.func (fitF r.kind)) #[] #[]) (.func (.func (lineF r.kind)) #[] (capO o)))), Lib.hid (hb5.grown (st3_grown w5 w1.heap.size (.func (.func (ownF r.kind)) #[] #[]) (.func (.func (fitF r.kind)) #[] #[]) (.func (.func (lineF r.kind)) #[] (capO o))) hb5.size (fun j hj => by cases hj; exact Nat.le_refl _))⟩)
  case rest =>
    obtain ⟨b4, o, rfl, rfl, hF, hBx, hB⟩ := hcut
    have HX := Lib.hid (show rsOk r = (rsFit r && rsSame r (rsOwn r)) from rfl)
    have R2 := Lib.hid (BX.out.below hB.out)
    have HR2 := Lib.hid ((hB.out.block _ HL1.out).trans HR1.out)
    have HLT2 := Lib.hid (Nat.lt_of_lt_of_le HL1.out hB.out.size)
    have FT := fun W (hW : Below wc.heap.size wc W) => (fit_any9 r HK.out hr hs A k W).mono fun e' w' (q : e' = .returned (.bool (rsFit r)) ∧ Below W.heap.size W w') => (⟨q.1, below_next hW q.2⟩ : e' = .returned (.bool (rsFit r)) ∧ Below wc.heap.size wc w')
    have BA := Lib.hid (below_next B0.out hB.out)
    have OW := fun W (hW : Below wc.heap.size wc W) => (own_det r A k W).mono fun e' w' (q : e' = .returned (rsV (rsOwn r) (ownA r A) (ownK r k)) ∧ Below W.heap.size W w') => (⟨q.1, below_next hW q.2⟩ : e' = .returned (rsV (rsOwn r) (ownA r A) (ownK r k)) ∧ Below wc.heap.size wc w')
    have SM := fun W (hW : Below wc.heap.size wc W) => (psame9_any r (rsOwn r) A (ownA r A) k (ownK r k) W (hA.below (below_next BA.out hW) |>.here) (own_by (hA.below (below_next BA.out hW) |>.here))).mono fun e' w' (q : e' = .returned (.bool (rsSame r (rsOwn r))) ∧ Below W.heap.size W w') => (⟨q.1, below_next hW q.2⟩ : e' = .returned (.bool (rsSame r (rsOwn r))) ∧ Below wc.heap.size wc w')
    have HEO := fun args W => enters_ownF r.kind args W
    have HEF := fun args W => enters_fitF r.kind args W
    have HPO := Lib.hid (show ∀ (_ : rsOk r = true) (e' : Ending) (w' : World) (o' : Option Nat) (_ : e' = Ending.returned (.tuple #[.agg #[.func (.func (ownF r.kind)) #[] #[], .func (.func (fitF r.kind)) #[] #[], .func (.func (lineF r.kind)) #[] (capO o')], .bool true])) (_ : BoxOk r.kind o' w') (_ : Below w.heap.size w w'), FoPost r w e' w' from fun h e' w' o' h2 h3 h4 => .inl ⟨h, o', h2, h3, h4⟩)
    have L1 := Lib.hid (fun W (hW : Below wc.heap.size wc W) => (R2.out.below hW).load)
    have LO := Lib.hid (fun W (hW : Below wc.heap.size wc W) => load_own ((cells3 ((hW.block b4 (Array.getElem?_eq_some_iff.1 hF.out).1).trans hF.out)).1))
    have LF := Lib.hid (fun W (hW : Below wc.heap.size wc W) => load_fit ((cells3 ((hW.block b4 (Array.getElem?_eq_some_iff.1 hF.out).1).trans hF.out)).2.1))
    generalize hq2 : rsSame r (rsOwn r) = q2 at *
    generalize hvb : rsV (rsOwn r) (ownA r A) (ownK r k) = vb at *
    clear hvb hq2
    generalize hva : rsV r A k = va at *
    have HVA := Lib.hid hva
    unfold rsV at hva
    clear hva
    generalize ownF r.kind = FO at *
    generalize fitF r.kind = FF at *
    generalize lineF r.kind = FL at *
    have FT := Lib.hid FT
    have OW := Lib.hid OW
    have SM := Lib.hid SM
    have HEF2 := Lib.hid HEF
    have HEO2 := Lib.hid HEO
    clear hA hr hs HBW FM HW1 HEF HEO
    cases hft : rsFit r with
    | false =>
      have HOK := Lib.hid (show rsOk r = false by rw [HX.out, hft]; rfl)
      rw [hft] at FT
      clear hft
      go_upto_region 2 with (fail)
      rename_i K hK
      refine drawn_region (ops := foOps) (anc := dahead foOps) (V := foV va b4 FF) (S := fun _ W => Below wc.heap.size wc W) (R := fun _ _ => False) (by kernel_rfl) fo_fit (below_drew 1) (fo_step va b4 FF _ _ rfl rfl rfl (fun W => Below wc.heap.size wc W) HEF2.out L1.out LF.out FT.out) (fun c a w' _ _ _ h => h.elim) (fun W h => ?_)
      rw [dfin_put fo_fit, fo_size, fo_put]
      clear L1 LO LF FT OW SM HEF2 HEO2
      have hB9 := h
      have hR := (hB9.block _ HLT2.out).trans HR2.out
      have HFIN := Lib.hid (below_next (below_next B0.out hB.out) hB9)
      have HR := Lib.hid hR
      obtain ⟨d0, d1, d2⟩ := cells3 hR
      have f0 := Joins.unfrozen_of_block hR 0
      have f1 := Joins.unfrozen_of_block hR 1
      have f2 := Joins.unfrozen_of_block hR 2
      clear hR hB9 h
      refine hK _ _ ?_
      simp only [List.setIfInBounds_toArray, List.set_cons_succ, List.set_cons_zero]
      go_wp2_with fail
      change bodyPost _ _ _ _ _ (st3 _ (w.heap.size + 1) .nilFunc .nilFunc .nilFunc)
      have hq := st3_block HR.out .nilFunc .nilFunc .nilFunc
      have HG := Lib.hid (st3_grown W (w.heap.size + 1) .nilFunc .nilFunc .nilFunc)
      have HB9 := Lib.hid (below_st HFIN.out HG.out (by omega))
      clear d0 d1 d2 f0 f1 f2
      obtain ⟨q0, q1', q2'⟩ := cells3 hq
      refine bodyPost_ret (v := .tuple #[.agg #[.nilFunc, .nilFunc, .nilFunc], .bool false]) (by simp [results, Tryz.results33, go_sem, q0, q1', q2']) rfl ?_
      exact .inr ⟨HOK.out, rfl, HB9.out⟩
    | true =>
      rw [hft] at FT
      cases q2 with
      | false =>
        have HOK := Lib.hid (show rsOk r = false by rw [HX.out, hft]; rfl)
        clear hft
        go_upto_region 2 with (fail)
        rename_i K hK
        refine drawn_region (ops := foOps) (anc := dahead foOps) (V := fpV va vb b4 FF FO false) (S := fun _ W => Below wc.heap.size wc W) (R := fun _ _ => False) (by kernel_rfl) fo_fit (below_drew 1) (fp_step va vb b4 FF FO false _ _ rfl rfl rfl (fun W => Below wc.heap.size wc W) HEF2.out HEO2.out L1.out LF.out FT.out LO.out OW.out SM.out) (fun c a w' _ _ _ h => h.elim) (fun W h => ?_)
        rw [dfin_put fo_fit, fo_size, fp_put]
        clear L1 LO LF FT OW SM HEF2 HEO2
        have hB9 := h
        have hR := (hB9.block _ HLT2.out).trans HR2.out
        have HFIN := Lib.hid (below_next (below_next B0.out hB.out) hB9)
        have HR := Lib.hid hR
        obtain ⟨d0, d1, d2⟩ := cells3 hR
        have f0 := Joins.unfrozen_of_block hR 0
        have f1 := Joins.unfrozen_of_block hR 1
        have f2 := Joins.unfrozen_of_block hR 2
        clear hR hB9 h
        refine hK _ _ ?_
        simp only [List.setIfInBounds_toArray, List.set_cons_succ, List.set_cons_zero]
        go_wp2_with fail
        change bodyPost _ _ _ _ _ (st3 _ (w.heap.size + 1) .nilFunc .nilFunc .nilFunc)
        have hq := st3_block HR.out .nilFunc .nilFunc .nilFunc
        have HG := Lib.hid (st3_grown W (w.heap.size + 1) .nilFunc .nilFunc .nilFunc)
        have HB9 := Lib.hid (below_st HFIN.out HG.out (by omega))
        clear d0 d1 d2 f0 f1 f2
        obtain ⟨q0, q1', q2'⟩ := cells3 hq
        refine bodyPost_ret (v := .tuple #[.agg #[.nilFunc, .nilFunc, .nilFunc], .bool false]) (by simp [results, Tryz.results33, go_sem, q0, q1', q2']) rfl ?_
        exact .inr ⟨HOK.out, rfl, HB9.out⟩
      | true =>
        have HOK := Lib.hid (show rsOk r = true by rw [HX.out, hft]; rfl)
        clear hft
        go_upto_region 2 with (fail)
        rename_i K hK
        refine drawn_region (ops := foOps) (anc := dahead foOps) (V := fpV va vb b4 FF FO true) (S := fun _ W => Below wc.heap.size wc W) (R := fun _ _ => False) (by kernel_rfl) fo_fit (below_drew 1) (fp_step va vb b4 FF FO true _ _ rfl rfl rfl (fun W => Below wc.heap.size wc W) HEF2.out HEO2.out L1.out LF.out FT.out LO.out OW.out SM.out) (fun c a w' _ _ _ h => h.elim) (fun W h => ?_)
        rw [dfin_put fo_fit, fo_size, fp_put]
        clear L1 LO LF FT OW SM HEF2 HEO2
        have hB9 := h
        have hR := (hB9.block _ HLT2.out).trans HR2.out
        have hF4 := (hB9.block b4 (Array.getElem?_eq_some_iff.1 hF.out).1).trans hF.out
        have HFIN := Lib.hid (below_next (below_next B0.out hB.out) hB9)
        have HBO := Lib.hid (hBx.out.below hB9)
        have HR := Lib.hid hR
        obtain ⟨d0, d1, d2⟩ := cells3 hR
        obtain ⟨g0, g1, g2⟩ := cells3 hF4
        have f0 := Joins.unfrozen_of_block hR 0
        have f1 := Joins.unfrozen_of_block hR 1
        have f2 := Joins.unfrozen_of_block hR 2
        clear hR hF4 hB9 h
        refine hK _ _ ?_
        simp only [List.setIfInBounds_toArray, List.set_cons_succ, List.set_cons_zero]
        go_wp2_with fail
        change bodyPost _ _ _ _ _ (st3 _ (w.heap.size + 1) (.func (.func FO) #[] #[]) (.func (.func FF) #[] #[]) (.func (.func FL) #[] (capO o)))
        have hq := st3_block HR.out (.func (.func FO) #[] #[]) (.func (.func FF) #[] #[]) (.func (.func FL) #[] (capO o))
        have HG := Lib.hid (st3_grown W (w.heap.size + 1) (.func (.func FO) #[] #[]) (.func (.func FF) #[] #[]) (.func (.func FL) #[] (capO o)))
        have HB9 := Lib.hid (below_st HFIN.out HG.out (by omega))
        have HBO2 := Lib.hid (HBO.out.other HR.out HG.out)
        clear d0 d1 d2 f0 f1 f2 g0 g1 g2
        obtain ⟨q0, q1', q2'⟩ := cells3 hq
        refine bodyPost_ret (v := .tuple #[.agg #[.func (.func FO) #[] #[], .func (.func FF) #[] #[], .func (.func FL) #[] (capO o)], .bool true]) (by simp [results, Tryz.results33, go_sem, q0, q1', q2']) rfl ?_
        exact HPO.out HOK.out _ _ o rfl HBO2.out HB9.out
end Go.Proofs.YtpoejnajnaolpaaGreatDoor
