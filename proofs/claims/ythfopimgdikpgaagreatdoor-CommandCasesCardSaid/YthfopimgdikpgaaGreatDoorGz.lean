/- The reference of layer 7: body, Parse. -/
import Derived.Test.YthfopimgdikpgaaGreatDoorGv
import Derived.Test.YthfopimgdikpgaaGreatDoorGw
import Derived.Test.YthfopimgdikpgaaGreatDoorRef07X
import Derived.Test.YthfopimgdikpgaaGreatDoorRef07Y
import Derived.Test.YthfopimgdikpgaaGreatDoorRef07Z
import Derived.Test.YthfopimgdikpgaaGreatDoorRefTok
import Derived.Deep.Cut
namespace Go.Proofs.YthfopimgdikpgaaGreatDoor
open Go.RowKit

/-- body, at all tokens. -/
theorem body_any (A : Option Addr) (k : Nat) (tag : List UInt8) (ts : List Tok) (hl : ts.length ≤ 10000) (hc : ts.length ≤ k) (htx : ∀ x ∈ ts, x.kind ≤ 6 ∧ x.text.length ≤ 9000) (w : World) (hS : SlAt encT 3 w A ts) :
    Calls Tryz.prog 30 #[.string ⟨tag.toArray⟩, .slice A ts.length k] w (BPost (bodyR tag ts) w) := by
  rcases ts with _ | ⟨t, r⟩
  · exact body_nil A k tag w
  by_cases h4 : t.kind = 4
  rotate_left
  · exact body_no4 A k tag hl htx w hS h4
  by_cases h0 : kindL t.text = 0
  · exact body_zero A k tag hl htx w hS h4 h0
  by_cases hle : kindL t.text ≤ 4
  · by_cases hr : r = []
    · exact body_one A k tag hl htx w hS h4 h0 hle hr
    · exact body_many A k tag hl htx w hS h4 h0 hle hr
  have h : 4 < kindL t.text := by omega
  rcases r with _ | ⟨s, _ | ⟨m, q⟩⟩
  · exact body_short A k tag hl htx w hS h4 h (by simp)
  · exact body_short A k tag hl htx w hS h4 h (by simp)
  by_cases hs : s.kind = 1
  rotate_left
  · exact body_nos A k tag hl htx w hS h4 h hs
  by_cases h6 : kindL t.text ≤ 6
  · cases hm : mboxR m with
    | false => exact body_nomb A k tag hl htx w hS h4 h h6 hs hm
    | true =>
      by_cases h5 : kindL t.text = 5
      · rcases q with _ | ⟨z, d⟩
        · exact body_sel A k tag hl htx w hS h4 h h6 hs hm h5
        · exact body_sel2 A k tag hl htx w hS h4 h h6 hs hm h5
      · rcases q with _ | ⟨z, d⟩
        · exact body_app0 A k tag hl htx w hS h4 h h6 hs hm h5
        · by_cases hz : z.kind = 1
          · exact body_app A k tag hl hc htx w hS h4 h h6 hs hm h5 hz
          · exact body_app1 A k tag hl htx w hS h4 h h6 hs hm h5 hz
  · have h6 : 6 < kindL t.text := by omega
    by_cases hm : m.kind = 4
    rotate_left
    · exact body_set1 A k tag hl htx w hS h4 h6 hs hm
    cases hp : (parseP m.text).2 with
    | false => exact body_set2 A k tag hl htx w hS h4 h6 hs hm hp
    | true =>
      rcases q with _ | ⟨z, _ | ⟨u, d⟩⟩
      · exact body_set3 A k tag hl htx w hS h4 h6 hs hm hp (by simp)
      · exact body_set3 A k tag hl htx w hS h4 h6 hs hm hp (by simp)
      by_cases hz : z.kind = 1
      rotate_left
      · exact body_set4 A k tag hl htx w hS h4 h6 hs hm hp hz
      by_cases h7 : kindL t.text = 7
      · by_cases hd : d = []
        · exact body_fet1 A k tag hl hc htx w hS h4 h6 hs hm hp hz h7 hd
        · exact body_fet2 A k tag hl hc htx w hS h4 h6 hs hm hp hz h7 hd
      by_cases hu : u.kind = 4
      rotate_left
      · exact body_sto1 A k tag hl htx w hS h4 h6 hs hm hp hz h7 hu
      cases hmo : modeL u.text with
      | none => exact body_sto2 A k tag hl htx w hS h4 h6 hs hm hp hz h7 hu hmo
      | some p =>
        obtain ⟨mo, si⟩ := p
        rcases d with _ | ⟨v, _ | ⟨x, d⟩⟩
        · exact body_sto3 A k tag hl htx w hS h4 h6 hs hm hp hz h7 hu hmo (by simp)
        · exact body_sto3 A k tag hl htx w hS h4 h6 hs hm hp hz h7 hu hmo (by simp)
        by_cases hv : v.kind = 1
        · exact body_sto5 A k tag hl hc htx w hS h4 h6 hs hm hp hz h7 hu hmo hv
        · exact body_sto4 A k tag hl htx w hS h4 h6 hs hm hp hz h7 hu hmo hv
end Go.Proofs.YthfopimgdikpgaaGreatDoor

namespace Go.Proofs.YthfopimgdikpgaaGreatDoor
open Go.RowKit

set_option maxRecDepth 100000 in
set_option maxHeartbeats 1000000 in
theorem rparse_none (B c : Nat) (A : Option Addr) (l : List UInt8) (hl : l.length ≤ 9000) (w : World) (hA : ByAt B w A c l) (hno : tagO l = none) :
    Calls Tryz.prog 11 #[.slice A l.length c] w (CPost l w) := by
  have HB := Lib.hid (below_al w (.cells #[.string ⟨#[]⟩, .int .i64 0, .string ⟨#[]⟩, .slice none 0 0, .int .i64 0, .int .i64 0, .bool false, .int .u8 0, .slice none 0 0] 27))
  have HR := Lib.hid (heap_alloc_new w (.cells #[.string ⟨#[]⟩, .int .i64 0, .string ⟨#[]⟩, .slice none 0 0, .int .i64 0, .int .i64 0, .bool false, .int .u8 0, .slice none 0 0] 27))
  have TG := Lib.hid (fun W (hW : Below w.heap.size w W) => refTagTok_any B A c l l.length rfl (by omega) W (hA.grow hW))
  rw [show tagV l = .tuple #[.string ⟨#[]⟩, .int .i64 0, .bool false] by unfold tagV; rw [hno]] at TG
  have HNO := Lib.hid hno
  clear hA hl hno
  go_enter Tryz.func11, Tryz.ntmps11
  go_upto_region 1 with (fail)
  generalize w.alloc (.cells #[.string ⟨#[]⟩, .int .i64 0, .string ⟨#[]⟩, .slice none 0 0, .int .i64 0, .int .i64 0, .bool false, .int .u8 0, .slice none 0 0] 27) = w1 at *
  obtain ⟨z0, z1, z2, z3, z4, z5, z6, z7, z8⟩ := cells9 HR.out
  have ur := fun j => Joins.unfrozen_of_block HR.out j
  go_wp2_with fail
  refine (TG.out _ HB.out).mono ?_
  rintro e w2 ⟨rfl, rfl⟩
  go_wp2_with fail
  refine rparse_fin (q := false) HR.out ?_ ?_ ?_
  · rfl
  · rfl
  · exact ⟨cmd0 [], false, _, .noTag HNO.out, rfl, ⟨CmdV.zero _ [], NewV.zero _ []⟩, stC_below HB.out⟩

theorem tag_len {l t : List UInt8} (hno : tagO l = some t) : t.length + 1 ≤ l.length := by
  unfold tagO at hno
  split at hno
  · rename_i h
    simp at hno
    have := (List.getElem?_eq_some_iff.1 h.2).1
    rw [hno] at this
    omega
  · cases hno

set_option maxRecDepth 100000 in
set_option maxHeartbeats 1000000 in
theorem rparse_some (B c : Nat) (A : Option Addr) (l t : List UInt8) (hl : l.length ≤ 9000) (w : World) (hA : ByAt B w A c l) (hno : tagO l = some t) :
    Calls Tryz.prog 11 #[.slice A l.length c] w (CPost l w) := by
  have HB := Lib.hid (below_al w (.cells #[.string ⟨#[]⟩, .int .i64 0, .string ⟨#[]⟩, .slice none 0 0, .int .i64 0, .int .i64 0, .bool false, .int .u8 0, .slice none 0 0] 27))
  have HR := Lib.hid (heap_alloc_new w (.cells #[.string ⟨#[]⟩, .int .i64 0, .string ⟨#[]⟩, .slice none 0 0, .int .i64 0, .int .i64 0, .bool false, .int .u8 0, .slice none 0 0] 27))
  have HSZ : Hid (_ = w.heap.size + 1) := Lib.hid (World.size_alloc w (.cells #[.string ⟨#[]⟩, .int .i64 0, .string ⟨#[]⟩, .slice none 0 0, .int .i64 0, .int .i64 0, .bool false, .int .u8 0, .slice none 0 0] 27))
  have TG := Lib.hid (fun W (hW : Below w.heap.size w W) => refTagTok_any B A c l l.length rfl (by omega) W (hA.grow hW))
  obtain ⟨n, hn⟩ : ∃ n, t.length + 1 = n := ⟨_, rfl⟩
  have hnl := tag_len hno
  rw [hn] at hnl
  rw [show tagV l = .tuple #[.string ⟨t.toArray⟩, .int .i64 (n : Int), .bool true] by unfold tagV; rw [hno, ← hn]; rfl] at TG
  have hse := fun x lo hi mx W => sliceAt_eq x lo hi mx W
  have hsl := fun W => slice_l A l.length c n hnl W
  have TK := Lib.hid (fun W (hW : Below w.heap.size w W) => refTokens_any B (c - n) (offA A c n) (l.drop n) (by rw [List.length_drop]; omega) W ((hA.grow hW).drop hnl))
  simp only [List.length_drop] at TK
  have HL : Hid ((l.drop n).length ≤ 9000) := Lib.hid (by rw [List.length_drop]; omega)
  have HNO := Lib.hid hno
  have HN := Lib.hid hn
  clear hA hl hno hn
  go_enter Tryz.func11, Tryz.ntmps11
  go_upto_region 1 with (fail)
  generalize w.alloc (.cells #[.string ⟨#[]⟩, .int .i64 0, .string ⟨#[]⟩, .slice none 0 0, .int .i64 0, .int .i64 0, .bool false, .int .u8 0, .slice none 0 0] 27) = w1 at *
  go_wp2_with fail
  refine (TG.out _ HB.out).mono ?_
  rintro e w2 ⟨rfl, rfl⟩
  go_wp2_with fail
  refine (TK.out _ HB.out).mono ?_
  rintro e w3 ⟨v, ts, x, rfl, hO, hT, hb3⟩
  have HR3 := Lib.hid ((hb3.block w.heap.size (by have := HSZ.out; omega)).trans HR.out)
  have HB3 := Lib.hid (HB.out.trans (hb3.mono HB.out.size))
  have HO := Lib.hid hO
  have HT := Lib.hid hT
  have hs3 : w.heap.size + 1 ≤ w3.heap.size := by have := hb3.size; have := HSZ.out; omega
  have hcase : (x = -1 ∧ Fin ts) ∨ (∃ n : Nat, x = n) := by
    rcases hT with ⟨us, h1, h2, h3⟩ | ⟨us, k, _, _, _, _, h3⟩
    · exact .inl ⟨h3, Fin.toks HL.out (.inl ⟨us, h1, h2, rfl⟩)⟩
    · exact .inr ⟨k, h3⟩
  clear hb3 hO hT TK HB HR TG hse hsl hnl HSZ
  obtain ⟨z0, z1, z2, z3, z4, z5, z6, z7, z8⟩ := cells9 HR3.out
  have ur := fun j => Joins.unfrozen_of_block HR3.out j
  rcases hcase with ⟨rfl, hf⟩ | ⟨k, rfl⟩
  rotate_left
  · have d0 : decide ((0 : Int) ≤ (k : Int)) = true := by simp
    go_wp2_with fail
    refine rparse_fin (q := false) HR3.out ?_ ?_ ?_
    · rfl
    · rfl
    · exact ⟨cmd0 t, false, _, .bad HNO.out (by rw [HN.out]; exact HT.out) (.inl (by omega)), rfl, ⟨CmdV.zero _ t, NewV.zero _ t⟩, stC_below HB3.out⟩
  · obtain ⟨l', e', rfl, he0, _, hok, hl'⟩ := hf
    obtain ⟨A', k', rfl⟩ := own_any HO.out
    have hS := SlAt.of_own encT_len HO.out
    have hk' : l'.length + 1 ≤ k' := by
      rcases HO.out.2 with ⟨h1, h0⟩ | ⟨g, cap, cur, h1, _, _, hn, _⟩
      · simp at h0
      · injection h1 with _ _ h3
        simp at hn
        omega
    have htk : (l' ++ [e']).take l'.length = l' := by simp
    have hS' := slAt_take (hi := l'.length) hS
    rw [htk] at hS'
    have BA := Lib.hid (body_any A' k' t l' (by omega) (by omega) (fun x hx => ⟨(hok x hx).2.1, (hok x hx).2.2.1⟩) w3 hS')
    have HQ : Hid (bodyO t (l' ++ [e']) = bodyR t l') := Lib.hid (body_is (fun x hx => ⟨(hok x hx).1, (hok x hx).2.1⟩) (fun x hx h => ((hok x hx).2.2.2 h).1) (fun x hx => by have := (hok x hx).2.2.1; omega) he0 t)
    obtain ⟨m, hm⟩ : ∃ m, (l' ++ [e']).length = m := ⟨_, rfl⟩
    have hm1 : l'.length + 1 = m := by rw [← hm]; simp
    have hw1 : IntKind.i64.wrap ((m : Int) - 1) = (l'.length : Int) := by rw [show l'.length = m - 1 by omega]; exact wrap_sub m 1 (by omega) (by omega)
    have s0 := fun x lo hi mx W => sliceAtRT x lo hi mx W
    have s1 := fun W => sliceRT_h A' m k' l'.length (by omega) W
    rw [hm]
    clear hS hS' htk hm hm1 hok hl' hk' HO he0
    go_wp2_with fail
    refine BA.out.mono ?_
    rintro e w4 ⟨v, q, rfl, ⟨a0, i1, a2, A3, n3, k3, i4, i5, q6, i7, A8, n8, k8, rfl⟩, hy, hno, hb4⟩
    have HR4 := Lib.hid ((hb4.block w.heap.size (by omega)).trans HR3.out)
    have HB4 := Lib.hid (HB3.out.trans (hb4.mono HB3.out.size))
    have hs4 := hb4.size
    have HX5 := Lib.hid (heap_alloc_new w4 (.cells #[.string a0, .int .i64 i1, .string a2, .slice A3 n3 k3, .int .i64 i4, .int .i64 i5, .bool q6, .int .u8 i7, .slice A8 n8 k8] 27))
    have h45 := below_al w4 (.cells #[.string a0, .int .i64 i1, .string a2, .slice A3 n3 k3, .int .i64 i4, .int .i64 i5, .bool q6, .int .u8 i7, .slice A8 n8 k8] 27)
    have HR5 := Lib.hid ((h45.block w.heap.size (by omega)).trans HR4.out)
    have HB5 := Lib.hid (HB4.out.trans (h45.mono HB4.out.size))
    have HBB := Lib.hid h45
    have HY := Lib.hid hy
    have HNQ := Lib.hid hno
    clear BA h45 hy hno HR4 HB4
    clear z0 z1 z2 z3 z4 z5 z6 z7 z8 ur
    go_upto_region 8 with (fail)
    generalize w4.alloc (.cells #[.string a0, .int .i64 i1, .string a2, .slice A3 n3 k3, .int .i64 i4, .int .i64 i5, .bool q6, .int .u8 i7, .slice A8 n8 k8] 27) = w5 at *
    obtain ⟨z0, z1, z2, z3, z4, z5, z6, z7, z8⟩ := cells9 HR5.out
    obtain ⟨x0, x1, x2, x3, x4, x5, x6, x7, x8⟩ := cells9 HX5.out
    have ur := fun j => Joins.unfrozen_of_block HR5.out j
    cases q with
    | false =>
      have HNN := HNQ.out rfl
      clear HNQ HY
      go_wp2_with fail
      refine rparse_fin (q := false) HR5.out ?_ ?_ ?_
      · rfl
      · rfl
      · exact ⟨cmd0 t, false, _, .bad HNO.out (by rw [HN.out]; exact HT.out) (.inr (by rw [HQ.out]; exact HNN.out)), rfl, ⟨CmdV.zero _ t, NewV.zero _ t⟩, stC_below HB5.out⟩
    | true =>
      have HYY := Lib.hid (HY.out rfl)
      clear HNQ HY
      go_wp2_with fail
      refine rparse_fin (q := true) HR5.out ?_ ?_ ?_
      · rfl
      · rfl
      · obtain ⟨cm, sv, dv, h1, h2, h3, h5, h6⟩ := HYY.out
        refine ⟨cm, true, _, .good HNO.out (by rw [HN.out]; exact HT.out) (by rw [HQ.out]; exact h2.out), rfl, ⟨?_, cm, sv, dv, h1, h5.mono (by omega), h6.mono (by omega)⟩, stC_below HB5.out⟩
        have h4 := h3.out.below HBB.out
        rw [h1] at h4 ⊢
        exact h4.past h5 h6 (by omega) (stC_grown _ _ _ _ _ _ _ _ _ _ _)

/-- Parse of the reference, at all bytes. -/
theorem rcommand_any (B c : Nat) (A : Option Addr) (l : List UInt8) (hl : l.length ≤ 9000) (w : World) (hA : ByAt B w A c l) :
    Calls Tryz.prog 11 #[.slice A l.length c] w (CPost l w) := by
  cases ht : tagO l with
  | none => exact rparse_none B c A l hl w hA ht
  | some t => exact rparse_some B c A l t hl w hA ht
end Go.Proofs.YthfopimgdikpgaaGreatDoor
