/- The law CommandKeeps. -/
import Derived.Test.YthfopimgdikpgaaGreatDoorL7P
namespace Go.Proofs.YthfopimgdikpgaaGreatDoor
open Go.RowKit

/-- One byte of a row of the call's own, one up. -/
theorem own_inc {w : World} {base g n cg k : Nat} {X : List UInt8} (h : w.ownsRow base 5 1 (.slice (some ⟨g, 0, none⟩) n cg) n (flatL encB X)) (hX : X.length = n) (hk : k < n) :
    w.cell? ⟨g, k, none⟩ = some (.int .u8 ((X[k]'(by omega)).toNat : Int)) ∧ w.frozen? ⟨g, k, none⟩ = false ∧ base ≤ g ∧
    (w.setCell ⟨g, k, none⟩ (.int .u8 ((X[k]'(by omega) + 1).toNat : Int))).ownsRow base 5 1 (.slice (some ⟨g, 0, none⟩) n cg) n (flatL encB (X.set k (X[k]'(by omega) + 1))) := by
  have e : flatL encB X = X.map fun c => Value.int .u8 (c.toNat : Int) := flatB X
  refine ⟨?_, h.frozenAt k, (h.lt g rfl).1, ?_⟩
  · rw [h.cellAt k (by omega), e, List.getElem?_map, List.getElem?_eq_getElem (by omega)]
    rfl
  · have := (h.stored k (.int .u8 ((X[k]'(by omega) + 1).toNat : Int))).1
    have e2 : flatL encB (X.set k (X[k]'(by omega) + 1)) = (flatL encB X).set k (.int .u8 ((X[k]'(by omega) + 1).toNat : Int)) := by rw [flatB, flatB, List.map_set]
    rw [e2]
    exact this
theorem inc_byte (x : UInt8) : IntKind.u8.wrap ((x.toNat : Int) + 1) = ((x + 1).toNat : Int) := by
  have h := x.toNat_lt
  have e : (x + 1).toNat = (x.toNat + 1) % 256 := by rw [UInt8.toNat_add]; rfl
  rw [e]
  simp [IntKind.wrap, IntKind.bits, IntKind.signed]

theorem slAt_keep {α : Type} {enc : α → List Value} {k n0 : Nat} {w w' : World} {A : Option Addr} {l : List α} (h : SlAt enc k w A l) (hn : ∀ b off s, A = some ⟨b, off, s⟩ → n0 ≤ b) (hs : w.heap.size ≤ w'.heap.size) (hk : ∀ b, n0 ≤ b → b < w.heap.size → w'.heap[b]? = w.heap[b]?) : SlAt enc k w' A l := by
  rcases h with h | ⟨b, off, rfl, hlt, hc⟩
  · exact .inl h
  · refine .inr ⟨b, off, rfl, Nat.lt_of_lt_of_le hlt hs, fun j x hj i u hi => ?_⟩
    have := hc j x hj i u hi
    unfold World.cell? at this ⊢
    rw [hk b (hn b off none rfl) hlt]
    exact this
theorem NewV.at_ {n : Nat} {c : Cmd} {sv dv : Value} (h : NewV n (.agg (cmdA c sv dv))) : NewS n sv ∧ NewS n dv := by
  obtain ⟨c', sv', dv', he, h1, h2⟩ := h
  have he' : cmdA c sv dv = cmdA c' sv' dv' := by injection he
  have e1 : sv = sv' := by
    have := congrArg (fun a => a[3]?) he'
    simpa [cmdA] using this
  have e2 : dv = dv' := by
    have := congrArg (fun a => a[8]?) he'
    simpa [cmdA] using this
  subst e1 e2
  exact ⟨h1, h2⟩

set_option maxRecDepth 100000 in
set_option maxHeartbeats 1000000 in
theorem commandKeeps_any (A : Option Addr) (c : Nat) (l : List UInt8) (_hl : l.length ≤ maxLen) (w : World) (henv : Env w) (hA : ByAt w.heap.size w A c l) :
    Calls Tryz.prog 8 #[.slice A l.length c] w fun e w' => e = .returned (.bool true) ∧ Below w.heap.size w w' := by
  obtain ⟨i0, hi, hz0, hz1, hz2⟩ := info_parts infoByte
  have AL := Lib.hid (fun W (hW : Below w.heap.size w W) => alive7_any W (henv.below hW))
  by_cases h2 : 2000 < l.length
  · have d1 : decide ((2000 : Int) < (l.length : Int)) = true := by simp; omega
    have d2 : decide (2000 < l.length) = true := by simpa using h2
    clear hA h2
    generalize l.length = n at *
    go_enter Tryz.func8, Tryz.ntmps8
    go_wp2_with fail
    refine (AL.out w (Below.refl _ _)).mono ?_
    rintro e w1 ⟨rfl, hb⟩
    go_wp2_with fail
    go_ret
    exact ⟨rfl, hb⟩
  · have d1 : decide ((2000 : Int) < (l.length : Int)) = false := by simp; omega
    have d2 : decide (2000 < l.length) = false := by simpa using h2
    have HA := Lib.hid hA
    have HL : Hid (l.length ≤ 9000) := Lib.hid (by omega)
    have hll : l.length ≤ 9000 := by omega
    have HE := Lib.hid (fun W (hW : Below w.heap.size w W) => henv.below hW)
    have HOE := Lib.hid (own_empty (sz := 1) (heap_alloc_new w (.cells #[] 5)) (Nat.le_refl _))
    have H63 := Lib.hid (show 0 + l.length ≤ maxLen by unfold maxLen; omega)
    have HBY := Lib.hid (show (0 + l.length) * 1 ≤ 140737488355328 by omega)
    have HSZ := Lib.hid (below_al w (.cells #[] 5)).size
    have RP := Lib.hid (fun W (hW : Below w.heap.size w W) => rcommand_any w.heap.size c A l (by omega) W (hA.grow hW))
    clear hA henv h2
    go_enter Tryz.func8, Tryz.ntmps8
    go_wp2_with (at_builtin; refine wpList_append_sl _ rfl _ _ 22 rfl w.heap.size 5 i0 _ 1 Tryz.underlying22 hi hz0 hz1 hz2 rfl (by decide) _ 0 [] rfl HOE.out A l c rfl encB_len (HA.out.grow (below_al w _)).sl (one_flatB l) H63.out HBY.out HSZ.out ?_; intro v2 w2 hown2 hg2)
    rw [Nat.zero_add, List.nil_append] at hown2
    obtain ⟨A2, c2, rfl⟩ := own_any hown2
    have HOW := Lib.hid (ByAt.of_own hown2)
    have HB2 := Lib.hid ((below_al w (.cells #[] 5)).grown hg2 HSZ.out (fun kk hkk => (HOE.out.lt kk hkk).1))
    have HRW := Lib.hid hown2
    have PA := Lib.hid (command_any _ c2 A2 l HL.out w2 (HE.out _ HB2.out) HOW.out)
    clear hown2 hg2 HOE HSZ H63 HBY
    go_wp2_with fail
    refine PA.out.mono ?_
    rintro e w3 ⟨cm, ok, v, hi, rfl, ⟨⟨_, _, rfl, ⟨A1, k1, rfl, h1a, h1b⟩, A5, k5, rfl, h2a, h2b⟩, hnv⟩, hb3⟩
    have hns := hnv.at_
    have BD := Lib.hid (hi.bd HL.out)
    have b34 := below_al w3 (.cells (cmdA cm (.slice A1 cm.set.length k1) (.slice A5 cm.data.length k5)) 27)
    have HX := Lib.hid (heap_alloc_new w3 (.cells (cmdA cm (.slice A1 cm.set.length k1) (.slice A5 cm.data.length k5)) 27))
    have b24 := below_next hb3 b34
    have HB4 := Lib.hid (HB2.out.trans (b24.mono HB2.out.size))
    have S1 := Lib.hid (h1b.below b34)
    have S2 := Lib.hid (h2b.below b34)
    have HI := Lib.hid hi
    have L2 := Lib.hid h2a
    have N1 : Hid (∀ b off s, A1 = some ⟨b, off, s⟩ → w2.heap.size ≤ b) := Lib.hid (fun b off s e => hns.1 b off s _ _ (by rw [e]))
    have N2 : Hid (∀ b off s, A5 = some ⟨b, off, s⟩ → w2.heap.size ≤ b) := Lib.hid (fun b off s e => hns.2 b off s _ _ (by rw [e]))
    have HRW4 := Lib.hid (own_below HRW.out b24)
    have hs4 := World.size_alloc w3 (.cells (cmdA cm (.slice A1 cm.set.length k1) (.slice A5 cm.data.length k5)) 27)
    have HS3 := Lib.hid hb3.size
    have HLT := Lib.hid (fun g (h : (Value.slice A2 l.length c2).ownBlock = some g) => HRW.out.lt g h)
    unfold cmdA at *
    clear b34 b24 h1b h2b hi hb3 h1a h2a hns hnv PA HOW HRW
    go_upto_region 5 with (fail)
    generalize w3.alloc (.cells #[.string ⟨cm.tag.toArray⟩, .int .i64 (cm.kind : Int), .string ⟨cm.mbox.toArray⟩, .slice A1 cm.set.length k1, .int .i64 (cm.items : Int), .int .i64 (cm.mode : Int), .bool cm.silent, .int .u8 (cm.flags : Int), .slice A5 cm.data.length k5] 27) = w4 at *
    go_wp2_with fail
    go_loopw [23] (fun i wr => ∃ (k : Nat) (X : List UInt8), k ≤ l.length ∧ i = .int .i64 (k : Int) ∧ Hid (X.length = l.length) ∧ Hid (wr.ownsRow w.heap.size 5 1 (.slice A2 l.length c2) l.length (flatL encB X)) ∧ Hid (w4.grownBy wr (Value.slice A2 l.length c2).ownBlock)) (fun i _ => l.length - (intOf i).toNat)
    case atStart => exact ⟨0, l, Nat.zero_le _, rfl, Lib.hid rfl, HRW4, Lib.hid (World.grownBy.refl _ _)⟩
    case round =>
      obtain ⟨k, X, hk, rfl, hX, hrow, hG⟩ := hrel
      by_cases hlt : k < l.length
      · obtain ⟨g, rfl⟩ : ∃ g, A2 = some ⟨g, 0, none⟩ := by
          rcases hrow.out.2 with ⟨h1, h0⟩ | ⟨g, cap, cur, h1, _⟩
          · omega
          · injection h1 with h1
            exact ⟨g, h1⟩
        obtain ⟨q1, q2, q3, q4⟩ := own_inc hrow.out hX.out hlt
        have e1 := inc_byte (X[k]'(by rw [hX.out]; exact hlt))
        have HN := Lib.hid (show (X.set k (X[k]'(by rw [hX.out]; exact hlt) + 1)).length = l.length by rw [List.length_set]; exact hX.out)
        have HQ := Lib.hid q4
        have HG2 : Hid (w4.grownBy (wr.setCell ⟨g, k, none⟩ (.int .u8 (((X[k]'(by rw [hX.out]; exact hlt)) + 1).toNat : Int))) (some g)) := Lib.hid (grown_set hG.out k _)
        generalize X.set k (X[k]'(by rw [hX.out]; exact hlt) + 1) = X2 at *
        generalize ((X[k]'(by rw [hX.out]; exact hlt)) + 1).toNat = y2 at *
        generalize (X[k]'(by rw [hX.out]; exact hlt)).toNat = y at *
        clear q4 q3 hG hrow HRW4
        go_wp2_with fail
        go_roundw
        case rel => exact ⟨k + 1, X2, by omega, by go_num, HN, HQ, HG2⟩
        case measure => simp [intOf]; omega
      · obtain rfl : k = l.length := by omega
        have HB5 := Lib.hid (HB4.out.grown hG.out HB4.out.size (fun j hj => (HLT.out j hj).1))
        have hne : ∀ b, w2.heap.size ≤ b → b < w4.heap.size → wr.heap[b]? = w4.heap[b]? := fun b hb hlt => hG.out.block b hlt (fun e => by have := (HLT.out b e.symm).2; omega)
        have S1' := Lib.hid (slAt_keep S1.out N1.out hG.out.size hne)
        have S2' := Lib.hid (slAt_keep S2.out N2.out hG.out.size hne)
        have HX5 := Lib.hid ((hne w3.heap.size HS3.out (by omega)).trans HX.out)
        have hs5 := hG.out.size
        clear hrow hX hG hne S1 S2 HX N1 N2 HRW4 HLT HB4
        go_wp2_with fail
        refine (RP.out _ HB5.out).mono ?_
        rintro e w6 ⟨cm', ok', v, hi, rfl, ⟨⟨_, _, rfl, ⟨A3, k3, rfl, h1a, h1b⟩, A4, k4, rfl, h2a, h2b⟩, _⟩, hb6⟩
        obtain ⟨rfl, rfl⟩ := HI.out.det hi
        have b67 := below_al w6 (.cells (cmdA cm (.slice A3 cm.set.length k3) (.slice A4 cm.data.length k4)) 27)
        have b57 := below_next hb6 b67
        have HX7 := Lib.hid ((b57.block w3.heap.size (by omega)).trans HX5.out)
        have HY7 := Lib.hid (heap_alloc_new w6 (.cells (cmdA cm (.slice A3 cm.set.length k3) (.slice A4 cm.data.length k4)) 27))
        have HB7 := Lib.hid (HB5.out.trans (b57.mono HB5.out.size))
        have S1 := Lib.hid (S1'.out.below b57)
        have S2 := Lib.hid (S2'.out.below b57)
        have S3 := Lib.hid (h1b.below b67)
        have S4 := Lib.hid (h2b.below b67)
        have L4 := Lib.hid h2a
        have hs6 := hb6.size
        have hs7 := World.size_alloc w6 (.cells (cmdA cm (.slice A3 cm.set.length k3) (.slice A4 cm.data.length k4)) 27)
        unfold cmdA at *
        clear b57 b67 h1b h2b h1a h2a hi hb6 RP HX5 HB5 S1' S2'
        go_upto_region 11 with (fail)
        generalize w6.alloc (.cells #[.string ⟨cm.tag.toArray⟩, .int .i64 (cm.kind : Int), .string ⟨cm.mbox.toArray⟩, .slice A3 cm.set.length k3, .int .i64 (cm.items : Int), .int .i64 (cm.mode : Int), .bool cm.silent, .int .u8 (cm.flags : Int), .slice A4 cm.data.length k4] 27) = w7 at *
        go_wp2_with fail
        refine (AL.out _ HB7.out).mono ?_
        rintro e w8 ⟨rfl, hb8⟩
        obtain ⟨x0, x1, x2, x3, x4, x5, x6, x7, x8⟩ := cells9 ((hb8.block w3.heap.size (by omega)).trans HX7.out)
        obtain ⟨y0, y1, y2, y3, y4, y5, y6, y7, y8⟩ := cells9 ((hb8.block w6.heap.size (by omega)).trans HY7.out)
        have SM := Lib.hid (rsame_cmd cm cm A1 A5 A3 A4 k1 k5 k3 k4 (by have := BD.out.1; omega) (by have := BD.out.2; omega) (by have := BD.out.1; omega) (by have := BD.out.2; omega) L2.out L4.out w8 (S1.out.below hb8) (S2.out.below hb8) (S3.out.below hb8) (S4.out.below hb8))
        rw [sameC_refl] at SM
        unfold cmdA at SM
        have HB8 := Lib.hid (HB7.out.trans (hb8.mono HB7.out.size))
        clear S1 S2 S3 S4 L2 L4 hb8 AL HX7 HY7 HB7 BD HI
        go_wp2_with fail
        refine SM.out.mono ?_
        rintro e w9 ⟨rfl, hb9⟩
        go_wp2_with fail
        go_ret
        exact ⟨rfl, HB8.out.trans (hb9.mono HB8.out.size)⟩
end Go.Proofs.YthfopimgdikpgaaGreatDoor
