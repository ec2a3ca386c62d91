/- resp: formOf at every response. -/
import Derived.Test.YtpoejnajnaolpaaGreatDoorRsFormOf
import Derived.Test.YtpoejnajnaolpaaGreatDoorGa
namespace Go.Proofs.YtpoejnajnaolpaaGreatDoor
open Go.RowKit Go.Maps

/-- What forms and the look-up in its map yield at a number that is no kind. -/
def LnPost (k : Int) (B : Nat) (w0 W : World) (e : Ending) (w' : World) : Prop :=
  ∃ m, e = .returned (.map (some m)) ∧ (Instr.lookup 78 (.map (some m)) (.int .i64 k) true).run Tryz.prog w' = .ok (.tuple #[.agg #[.nilFunc, .nilFunc, .nilFunc], .bool false]) w' ∧ (∀ z, (Instr.lookup 78 (.map (some m)) (.int .i64 k) true).run Tryz.prog (w'.alloc z) = .ok (.tuple #[.agg #[.nilFunc, .nilFunc, .nilFunc], .bool false]) (w'.alloc z)) ∧ Below W.heap.size W w' ∧ Below B w0 w'
theorem lk_no (k : Int) (h1 : -9223372036854775808 ≤ k) (h2 : k ≤ 9223372036854775807) (hk : ¬ (1 ≤ k ∧ k ≤ 10)) (w0 W : World) (hW : Below w0.heap.size w0 W) : Calls Tryz.prog 50 #[] W (LnPost k w0.heap.size w0 W) :=
  (forms_any W).mono fun _ w' ⟨_, _, _, _, _, _, _, he, ho, _, hb⟩ =>
    ⟨_, he, look_none ho k h1 h2 hk, fun z => look_none (map_below ho (below_al w' z)) k h1 h2 hk, hb, below_next hW hb⟩

set_option maxRecDepth 100000 in
set_option maxHeartbeats 4000000 in
theorem formOf_out (r : RI) (hk : ¬ (1 ≤ r.kind ∧ r.kind ≤ 10)) (hr : RIok r) (A : Option Addr) (k : Nat) (w : World) :
    Calls Tryz.prog 33 #[rsV r A k] w (FoPost r w) := by
  have HOK := Lib.hid (show rsOk r = false by
    unfold rsOk rsFit
    rw [if_neg (by omega), if_neg (by omega), if_neg (by omega), if_neg (by omega), if_neg (by omega)]
    rfl)
  have B0 := Lib.hid (below_2box w (.cells #[.int .i64 r.kind, .int .u32 (r.n : Int), .string ⟨r.tag.toArray⟩, .int .i64 r.status, .string ⟨r.text.toArray⟩, .int .i64 r.items, .int .u8 (r.flags : Int), .int .u32 (r.uid : Int), .int .u32 (r.size : Int), .slice A r.body.length k] 27) (.cells #[.nilFunc, .nilFunc, .nilFunc] 62))
  have BX := Lib.hid ((RsBox.new w r A k).below (below_al _ (.cells #[.nilFunc, .nilFunc, .nilFunc] 62)))
  unfold rsV
  generalize hW1 : (w.alloc (.cells #[.int .i64 r.kind, .int .u32 (r.n : Int), .string ⟨r.tag.toArray⟩, .int .i64 r.status, .string ⟨r.text.toArray⟩, .int .i64 r.items, .int .u8 (r.flags : Int), .int .u32 (r.uid : Int), .int .u32 (r.size : Int), .slice A r.body.length k] 27)).alloc (.cells #[.nilFunc, .nilFunc, .nilFunc] 62) = w1 at *
  have HW1 := Lib.hid hW1
  have FM := Lib.hid (fun W (hW : Below w1.heap.size w1 W) => lk_no r.kind hr.kind.1 hr.kind.2 hk w1 W hW)
  obtain ⟨x0, -, -, -, -, -, -, -, -, -⟩ := BX.out.cells
  have hlt := BX.out.lt
  have HBW := Lib.hid (show ∀ W, Below w1.heap.size w1 W → W.cell? ⟨w.heap.size, 0, none⟩ = some (.int .i64 r.kind) ∧ Below w1.heap.size w1 W from fun W hW => ⟨(hW.cell (p := ⟨w.heap.size, 0, none⟩) hlt).trans x0, hW⟩)
  have HL1 := Lib.hid (show w.heap.size + 1 < w1.heap.size by rw [← hW1]; simp)
  have HR1 := Lib.hid (show w1.heap[w.heap.size + 1]? = some (.cells #[.nilFunc, .nilFunc, .nilFunc] 62 (0, 0)) by
    rw [← hW1]
    have := heap_alloc_new (w.alloc (.cells #[.int .i64 r.kind, .int .u32 (r.n : Int), .string ⟨r.tag.toArray⟩, .int .i64 r.status, .string ⟨r.text.toArray⟩, .int .i64 r.items, .int .u8 (r.flags : Int), .int .u32 (r.uid : Int), .int .u32 (r.size : Int), .slice A r.body.length k] 27)) (.cells #[.nilFunc, .nilFunc, .nilFunc] 62)
    rwa [World.size_alloc] at this)
  clear hW1 x0 hlt hk hr
  go_enter Tryz.func33, Tryz.ntmps33
  go_upto_region 1 with (fail)
  rw [HW1.out]
  go_cut [4, 5] (fun _ s5 wx => s5 = .bool false ∧ Hid (Below w1.heap.size w1 wx))
  case first =>
    go_region_held3 (fun w' => w'.cell? ⟨w.heap.size, 0, none⟩ = some (.int .i64 r.kind) ∧ Below w1.heap.size w1 w')
      ((refine HBW.out _ ?_; repeat (first | assumption | exact Below.refl _ _ | refine belDrawN ?_ _ | refine belDraw ?_ | refine belAlloc ?_ _ | refine belSet9 ?_ (by first | exact Nat.le_refl _ | omega) _)))
      ((go_at_call 50; refine (FM.out _ (by repeat (first | assumption | exact Below.refl _ _ | refine belDrawN ?_ _ | refine belDraw ?_ | refine belAlloc ?_ _))).mono ?_; rintro e' w5 ⟨m, rfl, hl, hl2, hbW, hb5⟩; obtain ⟨hc, hf⟩ := bcell hbW; have hz5 := hbW.size; try rw [World.size_alloc] at hz5))
    all_goals
      rename_i hH
      go_wp2_with fail
      go_meet
      exact ⟨rfl, Lib.hid hH.2⟩
  case rest =>
    obtain ⟨rfl, hB⟩ := hcut
    have HR2 := Lib.hid ((hB.out.block _ HL1.out).trans HR1.out)
    have HFIN := Lib.hid (below_next B0.out hB.out)
    obtain ⟨d0, d1, d2⟩ := cells3 HR2.out
    have f0 := Joins.unfrozen_of_block HR2.out 0
    have f1 := Joins.unfrozen_of_block HR2.out 1
    have f2 := Joins.unfrozen_of_block HR2.out 2
    clear HBW FM HW1 BX
    go_wp2_with fail
    go_quiet (fail)
    go_wp2_with fail
    change bodyPost _ _ _ _ _ (st3 _ (w.heap.size + 1) .nilFunc .nilFunc .nilFunc)
    have hq := st3_block (W := wc.drewN nq) HR2.out .nilFunc .nilFunc .nilFunc
    have HG := Lib.hid (st3_grown (wc.drewN nq) (w.heap.size + 1) .nilFunc .nilFunc .nilFunc)
    have HB9 := Lib.hid (below_st (belDrawN HFIN.out nq) HG.out (by omega))
    clear d0 d1 d2 f0 f1 f2
    obtain ⟨q0, q1', q2'⟩ := cells3 hq
    refine bodyPost_ret (v := .tuple #[.agg #[.nilFunc, .nilFunc, .nilFunc], .bool false]) (by simp [results, Tryz.results33, go_sem, q0, q1', q2']) rfl ?_
    exact .inr ⟨HOK.out, rfl, HB9.out⟩

theorem formOf_any (r : RI) (hr : RIok r) (hs : RIsm r) (A : Option Addr) (k : Nat) (w : World) (hA : ByAt w.heap.size w A k r.body) :
    Calls Tryz.prog 33 #[rsV r A k] w (FoPost r w) := by
  by_cases hk : 1 ≤ r.kind ∧ r.kind ≤ 10
  · exact formOf_in r hk.1 hk.2 hr hs A k w hA
  · exact formOf_out r hk hr A k w
end Go.Proofs.YtpoejnajnaolpaaGreatDoor

namespace Go.Proofs.YtpoejnajnaolpaaGreatDoor
open Go.RowKit

theorem line_len (r : RI) (hr : RIok r) (hs : RIsm r) : (rsLine r).length ≤ 60000 := by
  have h1 := dec_len hr.n
  have h2 := parts_len r hs hr.uid hr.size
  have h3 := spL_len (rsParts r) h2.2
  have h4 := hs.text
  have h5 := hs.tag
  have h6 := list_len 31
  have h7 : (rsWord r.kind).length ≤ 10 := by unfold rsWord; split <;> (try split) <;> decide
  have h8 : (rsPre r.kind).length ≤ 10 := by unfold rsPre; split <;> (try split) <;> (try split) <;> decide
  have h9 : (rsStat r.status).length ≤ 10 := by unfold rsStat; split <;> (try split) <;> decide
  have h10 := h2.1
  unfold rsLine
  split
  · simp only [List.length_append, List.length_cons, List.length_nil]; omega
  split
  · simp only [List.length_append, List.length_cons, List.length_nil]; omega
  split
  · simp only [List.length_append, List.length_cons, List.length_nil]; omega
  split
  · simp only [List.length_append, List.length_cons, List.length_nil]; omega
  · simp only [List.length_append]; omega
theorem form_len (r : RI) (hr : RIok r) (hs : RIsm r) : (rsForm r).length ≤ 60002 := by
  have := line_len r hr hs
  unfold rsForm
  simp only [List.length_append, List.length_cons, List.length_nil]
  omega
theorem ok_fit {r : RI} (h : rsOk r = true) : rsFit r = true := by
  unfold rsOk at h
  rw [Bool.and_eq_true] at h
  exact h.1

/-- What Print returns. -/
def PnPost (r : RI) (w : World) (e : Ending) (w' : World) : Prop :=
  (rsOk r = true ∧ ∃ A' c', e = .returned (.tuple #[.slice A' (rsForm r).length c', .bool true]) ∧ ByAt w'.heap.size w' A' c' (rsForm r) ∧ Below w.heap.size w w') ∨
  (rsOk r = false ∧ e = .returned (.tuple #[.slice none 0 0, .bool false]) ∧ Below w.heap.size w w')

set_option maxRecDepth 100000 in
set_option maxHeartbeats 4000000 in
theorem print9_any (r : RI) (hr : RIok r) (hs : RIsm r) (A : Option Addr) (k : Nat) (w : World) (henv : Env w) (hA : ByAt w.heap.size w A k r.body) :
    Calls Tryz.prog 19 #[rsV r A k] w (PnPost r w) := by
  have B0 := Lib.hid (below_al w (.cells #[.int .i64 r.kind, .int .u32 (r.n : Int), .string ⟨r.tag.toArray⟩, .int .i64 r.status, .string ⟨r.text.toArray⟩, .int .i64 r.items, .int .u8 (r.flags : Int), .int .u32 (r.uid : Int), .int .u32 (r.size : Int), .slice A r.body.length k] 27))
  have BX := Lib.hid (RsBox.new w r A k)
  have FO := formOf_any r hr hs A k (w.alloc (.cells #[.int .i64 r.kind, .int .u32 (r.n : Int), .string ⟨r.tag.toArray⟩, .int .i64 r.status, .string ⟨r.text.toArray⟩, .int .i64 r.items, .int .u8 (r.flags : Int), .int .u32 (r.uid : Int), .int .u32 (r.size : Int), .slice A r.body.length k] 27)) (hA.grow (below_al w _)).here
  have LN := Lib.hid (fun W o (hW : Below w.heap.size w W) (hf : rsOk r = true) (hb : BoxOk r.kind o W) => line_any9 r hr hs (ok_fit hf) A k o W (henv.below hW) (hA.below hW).here hb)
  have HLN := Lib.hid (line_len r hr hs)
  have HEL := fun args W => enters_lineF r.kind args W
  have HFM : Hid (rsForm r = rsLine r ++ [13, 10]) := Lib.hid rfl
  unfold rsV at *
  have FO := Lib.hid FO
  obtain ⟨n, hn⟩ : ∃ n, r.body.length = n := ⟨_, rfl⟩
  have HN := Lib.hid hn
  clear hA henv hr hs hn
  go_enter Tryz.func19, Tryz.ntmps19
  go_wp2_with fail
  refine FO.out.mono ?_
  rintro e w2 (⟨hok, o, rfl, hbx, hb⟩ | ⟨hok, rfl, hb⟩)
  · have HB2 := Lib.hid (below_next B0.out hb)
    have R2 := Lib.hid (BX.out.below hb)
    have HBX := Lib.hid hbx
    have HOK := Lib.hid hok
    unfold frV
    generalize ownF r.kind = F1 at *
    generalize fitF r.kind = F2 at *
    generalize lineF r.kind = FL at *
    clear hbx hok hb FO BX B0
    have HN2 := Lib.hid HN.out
    rcases o with _ | b
    · skip
      dsimp only
      have AL := Lib.hid (below_al w2 (.cells #[.func (.func F1) #[] #[], .func (.func F2) #[] #[], .func (.func FL) #[] #[]] 62))
      have L1 := Lib.hid (LN.out _ none (below_next HB2.out AL.out) HOK.out (HBX.out.below AL.out))
      unfold capO at L1
      simp only [Array.append_empty] at L1
      rw [HN.out] at L1
      have L1 := Lib.hid L1.out
      obtain ⟨x0, x1, x2, x3, x4, x5, x6, x7, x8, x9⟩ := R2.out.cells
      rw [HN.out] at x9
      have hlt := R2.out.lt
      have hds : (ByteArray.mk (rsLine r).toArray).size ≤ 60000 := by have := HLN.out; simpa [ByteArray.size] using this
      have HBA := Lib.hid (below_next HB2.out AL.out)
      have HAP := Lib.hid (show (ByteArray.mk (rsLine r).toArray ++ ByteArray.mk #[13, 10]).data.toList = rsForm r by rw [HFM.out]; simp)
      generalize hdl : ByteArray.mk (rsLine r).toArray = dl at *
      clear hdl LN HN HLN
      rw [HN2.out]
      go_wp2_with fail
      refine L1.out.mono ?_
      rintro e w4 ⟨rfl, hb⟩
      have HB4 := Lib.hid (below_next HBA.out hb)
      obtain ⟨m, hm⟩ : ∃ m, (dl ++ ByteArray.mk #[13, 10]).size = m := ⟨_, rfl⟩
      obtain ⟨cap, w5, hcs, hB5, hP, -, -, -⟩ := convB w4 (dl ++ ByteArray.mk #[13, 10]) m hm
      rw [HAP.out] at hP
      have HP := Lib.hid hP
      have HL := Lib.hid (show m = (rsForm r).length by rw [← HAP.out, ← hm, Array.length_toList]; rfl)
      have HB5 := Lib.hid (below_next HB4.out hB5)
      clear hb hm hP hB5 x0 x1 x2 x3 x4 x5 x6 x7 x8 x9 hlt
      go_wp2_with fail
      go_ret2
      exact .inl ⟨HOK.out, _, _, by rw [← HL.out]; rfl, HP.out, HB5.out⟩
    · skip
      dsimp only
      have AL := Lib.hid (below_al w2 (.cells #[.func (.func F1) #[] #[], .func (.func F2) #[] #[], .func (.func FL) #[] #[.pointer (some ⟨b, 0, none⟩)]] 62))
      have L1 := Lib.hid (LN.out _ (some b) (below_next HB2.out AL.out) HOK.out (HBX.out.below AL.out))
      unfold capO at L1
      simp only [List.append_toArray, List.cons_append, List.nil_append] at L1
      rw [HN.out] at L1
      have L1 := Lib.hid L1.out
      obtain ⟨x0, x1, x2, x3, x4, x5, x6, x7, x8, x9⟩ := R2.out.cells
      rw [HN.out] at x9
      have hlt := R2.out.lt
      have hds : (ByteArray.mk (rsLine r).toArray).size ≤ 60000 := by have := HLN.out; simpa [ByteArray.size] using this
      have HBA := Lib.hid (below_next HB2.out AL.out)
      have HAP := Lib.hid (show (ByteArray.mk (rsLine r).toArray ++ ByteArray.mk #[13, 10]).data.toList = rsForm r by rw [HFM.out]; simp)
      generalize hdl : ByteArray.mk (rsLine r).toArray = dl at *
      clear hdl LN HN HLN
      rw [HN2.out]
      go_wp2_with fail
      refine L1.out.mono ?_
      rintro e w4 ⟨rfl, hb⟩
      have HB4 := Lib.hid (below_next HBA.out hb)
      obtain ⟨m, hm⟩ : ∃ m, (dl ++ ByteArray.mk #[13, 10]).size = m := ⟨_, rfl⟩
      obtain ⟨cap, w5, hcs, hB5, hP, -, -, -⟩ := convB w4 (dl ++ ByteArray.mk #[13, 10]) m hm
      rw [HAP.out] at hP
      have HP := Lib.hid hP
      have HL := Lib.hid (show m = (rsForm r).length by rw [← HAP.out, ← hm, Array.length_toList]; rfl)
      have HB5 := Lib.hid (below_next HB4.out hB5)
      clear hb hm hP hB5 x0 x1 x2 x3 x4 x5 x6 x7 x8 x9 hlt
      go_wp2_with fail
      go_ret2
      exact .inl ⟨HOK.out, _, _, by rw [← HL.out]; rfl, HP.out, HB5.out⟩
  · have HB2 := Lib.hid (below_next B0.out hb)
    have HOK := Lib.hid hok
    clear hb hok FO BX B0
    go_wp2_with fail
    go_ret2
    exact .inr ⟨HOK.out, rfl, below_next HB2.out (below_al _ _)⟩
end Go.Proofs.YtpoejnajnaolpaaGreatDoor
