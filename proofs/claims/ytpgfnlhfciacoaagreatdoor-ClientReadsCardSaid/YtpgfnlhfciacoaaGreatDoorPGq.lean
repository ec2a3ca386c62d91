import Derived.Test.YtpgfnlhfciacoaaGreatDoorPGc
import Derived.Shelf.Strings.Builder1
import Derived.Lib.QuietBelow
set_option maxRecDepth 100000
set_option maxHeartbeats 2000000
open Go.Lib renaming hid → Hi
namespace Go.Proofs.YtpgfnlhfciacoaaGreatDoor
open Go.RowKit
theorem SlAt.pair {w : World} {A : Option Addr} {l : List R} (h : SlAt encR 2 w A l) {j : Nat} (hj : j < l.length) :
 ∃ b off, A = some ⟨b, off, none⟩ ∧ b < w.heap.size ∧ w.cell? ⟨b, off + j * 2, none⟩ = some (.int .u32 (l[j].1 : Int)) ∧ w.cell? ⟨b, off + j * 2 + 1, none⟩ = some (.int .u32 (l[j].2 : Int)) := by
 obtain ⟨b, off, hA, hb, hc⟩ := h.at_ hj
 exact ⟨b, off, hA, hb, by simpa using hc 0 _ rfl, by simpa using hc 1 _ rfl⟩
theorem quoted_no (B : Nat) (A : Option Addr) (c : Nat) (l : List UInt8) (hl : l.length ≤ 1000000) (w : World) (hA : ByAt B w A c l) (ha : allT l = false) :
 Calls Tryz.prog 211 #[.slice A l.length c] w fun e w' => e = .returned (.tuple #[.string ⟨#[]⟩, .bool false]) ∧ Below w.heap.size w w' := by
 have C := contText_any B A c l (by omega) w hA
 rw [ha] at C
 have C := Hi C
 clear ha hA
 go_enter Tryz.func211, Tryz.ntmps211
 go_wp2_with fail
 refine C.out.mono ?_
 rintro e w1 ⟨rfl, hb⟩
 go_wp2_with fail
 go_ret2
 exact ⟨rfl, hb⟩
theorem quoted_yes (B : Nat) (A : Option Addr) (c : Nat) (l : List UInt8) (hl : l.length ≤ 1000000) (w : World) (hA : ByAt B w A c l) (ha : allT l = true) :
 Calls Tryz.prog 211 #[.slice A l.length c] w fun e w' => e = .returned (.tuple #[.string ⟨(quotedL l).toArray⟩, .bool true]) ∧ Below w.heap.size w w' := by
 have C := contText_any B A c l (by omega) w hA
 rw [ha] at C
 have C := Hi C
 have HA := Hi hA.here
 have SP := Hi (fun n h w1 => special_any n h w1)
 have hle := hA.le
 clear ha hA
 have CO := Hi (fun w1 => collector_any (2 * l.length + 2) (by omega) w1)
 have eco : ((2 * l.length + 2 : Nat) : Int) = 2 * (l.length : Int) + 2 := by omega
 rw [eco] at CO
 clear eco
 obtain ⟨size, hsz⟩ : ∃ n, n = 2 * l.length + 2 := ⟨_, rfl⟩
 rw [← hsz] at CO
 have HSZ := Hi hsz
 have hs1 : size ≤ 2 * l.length + 2 := by omega
 have hs2 : 2 * l.length + 2 ≤ size := by omega
 clear hsz
 go_enter Tryz.func211, Tryz.ntmps211
 go_wp2_with fail
 refine C.out.mono ?_
 rintro e w1 ⟨rfl, hb⟩
 clear C
 go_wp2_with fail
 refine (CO.out _).mono ?_
 rintro e w2 ⟨g, bu, ba, rfl, hC, h2⟩
 have hB2 := YA hb h2
 have P1 := Hi (put_at w1.heap.size g bu ba size [] [34] _ _ 1 1 1 rfl rfl (by omega) (by omega) _ (hC.below (YB w2 (.cells #[.int .u8 34] 5))) (byAt_34 w2))
 have hz := hb.size
 clear CO hC h2 hb
 go_wp2_with fail
 refine P1.out.mono ?_
 rintro e w3 ⟨rfl, hC3, h3⟩
 have hB3 := (hB2.alloc hB2.size (.cells #[.int .u8 34] 5)).trans (h3.mono hz)
 clear P1 h3 hB2
 have hse := fun x lo hi mx W => YY x lo hi mx W
 generalize w1.heap.size = B1 at *
 go_wp2_with fail
 go_loopw [5, 20] (fun f i wr => ∃ (k fr : Nat) (X : List UInt8), k ≤ l.length ∧ fr ≤ k ∧ f = .int .i64 (fr : Int) ∧ i = .int .i64 (k : Int) ∧ Hid (X ++ (l.take k).drop fr = 34 :: escL (l.take k)) ∧ Hid (Col B1 g bu ba size X wr) ∧ Below w.heap.size w wr) (fun _ i _ => l.length - (intOf i).toNat)
 case atStart => exact ⟨0, 0, [34], Nat.zero_le _, Nat.le_refl _, rfl, rfl, rfl, hC3, hB3⟩
 case round =>
  obtain ⟨k, fr, X, hk, hfr, rfl, rfl, hX, hC, hB⟩ := hrel
  have HQ := q_len hk hfr hX.out
  by_cases hlt : k < l.length
  · obtain ⟨b, off, rfl, _, _, hc⟩ := (HA.out.below hB).cell hlt
    have hn : l[k].toNat ≤ 255 := by have := l[k].toNat_lt; omega
    have S := SP.out l[k].toNat hn wr
    cases hs : spN l[k].toNat with
    | false =>
      have HN := Hi (q_step_plain hlt hfr hX.out hs)
      rw [hs] at S
      have S := Hi S
      clear hs
      go_wp2_with fail
      refine S.out.mono ?_
      rintro e w4 ⟨rfl, rfl⟩
      go_wp2_with fail
      go_roundw
      case rel => exact ⟨k + 1, fr, X, by omega, by omega, rfl, by go_num, HN.out, hC, hB⟩
      case measure => simp [intOf]; omega
    | true =>
      have HN := Hi (q_step_sp hlt hX.out hs)
      rw [hs] at S
      have S := Hi S
      clear hs
      have hsl := fun W => slice_lh (some ⟨b, off, none⟩) l.length c fr k hfr (by omega) W
      have P1 := Hi (put_at B1 g bu ba size X ((l.take k).drop fr) _ _ (c - fr) (k - fr) (X.length + (k - fr)) (cut_len hk) rfl (by omega) (by omega) wr hC.out ((HA.out.below hB).cut hfr hk))
      go_wp2_with fail
      refine S.out.mono ?_
      rintro e w4 ⟨rfl, rfl⟩
      go_wp2_with fail
      refine P1.out.mono ?_
      rintro e w5 ⟨rfl, hC5, h5⟩
      have hB5 := hB.trans (h5.mono hz)
      have P2 := Hi (put_at B1 g bu ba size (X ++ (l.take k).drop fr) [92] _ _ 1 1 (X.length + (k - fr) + 1) rfl (by rw [List.length_append, cut_len hk]) (by omega) (by omega) _ (hC5.out.below (YB w5 (.cells #[.int .u8 92] 5))) (byAt_92 w5))
      clear P1 h5 hC5
      go_wp2_with fail
      refine P2.out.mono ?_
      rintro e w6 ⟨rfl, hC6, h6⟩
      have hB6 := (hB5.alloc hB5.size (.cells #[.int .u8 92] 5)).trans (h6.mono hz)
      clear P2 h6
      go_wp2_with fail
      go_roundw
      case rel => exact ⟨k + 1, k, _, by omega, by omega, rfl, by go_num, HN.out, hC6, hB6⟩
      case measure => simp [intOf]; omega
  · obtain rfl : k = l.length := by omega
    have HN := Hi (q_end hX.out)
    have hsl := fun W => slice_l A l.length c fr hfr W
    have P1 := Hi (put_at B1 g bu ba size X (l.drop fr) _ _ (c - fr) (l.length - fr) (X.length + (l.length - fr)) (by rw [List.length_drop]) rfl (by omega) (by omega) wr hC.out ((HA.out.below hB).drop hfr))
    go_wp2_with fail
    refine P1.out.mono ?_
    rintro e w5 ⟨rfl, hC5, h5⟩
    have hB5 := hB.trans (h5.mono hz)
    obtain ⟨m, hm⟩ : ∃ m, X.length + (l.length - fr) + 1 = m := ⟨_, rfl⟩
    have hmX : (X ++ l.drop fr ++ [34]).length = m := by rw [List.length_append, List.length_append, List.length_drop, ← hm]; rfl
    have P2 := Hi (put_at B1 g bu ba size (X ++ l.drop fr) [34] _ _ 1 1 m rfl (by rw [List.length_append, List.length_drop]; omega) (by omega) (by omega) _ (hC5.out.below (YB w5 (.cells #[.int .u8 34] 5))) (byAt_34 w5))
    have HMX := Hi hmX
    clear P1 h5 hC5 hm hmX
    go_wp2_with fail
    refine P2.out.mono ?_
    rintro e w6 ⟨rfl, hC6, h6⟩
    have hB6 := (hB5.alloc hB5.size (.cells #[.int .u8 34] 5)).trans (h6.mono hz)
    have hcv := convS _ w6 (some ⟨g, 0, none⟩) size m _ hC6.out.read HMX.out
    rw [HN.out] at hcv
    clear P2 h6
    obtain ⟨q, hq⟩ : ∃ q, quotedL l = q := ⟨_, rfl⟩
    rw [hq] at hcv
    have HQL := Hi hq
    clear hq
    go_wp2_with fail
    go_ret2
    exact ⟨by rw [HQL.out]; rfl, hB6⟩
theorem quoted_any (B : Nat) (A : Option Addr) (c : Nat) (l : List UInt8) (hl : l.length ≤ 1000000) (w : World) (hA : ByAt B w A c l) :
 Calls Tryz.prog 211 #[.slice A l.length c] w fun e w' => e = .returned (.tuple #[.string ⟨(if allT l = true then quotedL l else []).toArray⟩, .bool (allT l)]) ∧ Below w.heap.size w w' := by
 cases ha : allT l with
 | true => exact quoted_yes B A c l hl w hA ha
 | false => exact quoted_no B A c l hl w hA ha
section
open Go.Lib hiding intOf
theorem literal_any (B : Nat) (A : Option Addr) (c : Nat) (l : List UInt8) (hl : l.length ≤ 1000000) (w : World) (henv : Env w) (hA : ByAt B w A c l) :
 Calls Tryz.prog 165 #[.slice A l.length c] w fun e w' => ∃ A' c', e = .returned (.slice A' (YS l).length c') ∧ ByAt w'.heap.size w' A' c' (YS l) ∧ Below w.heap.size w w' := by
 have D := Hi (decimal_any l.length (by omega) w henv)
 have HA := Hi hA.here
 have hcv : IntKind.u32.wrap (l.length : Int) = (l.length : Int) := by simp [IntKind.wrap, IntKind.bits, IntKind.signed]; omega
 have hdl := dec_len (u := l.length) (by omega)
 have HL := Hi (show YS l = (123 :: (decDigits l.length ++ [125, 13, 10])) ++ l from rfl)
 have HLL := Hi (show (YS l).length = 1 + (decDigits l.length).length + 3 + l.length by rw [HL.out]; simp; omega)
 clear henv hA
 generalize decDigits l.length = d at *
 generalize YS l = L at *
 have CO := fun w1 => collector_any (1 + d.length + 3 + l.length) (by omega) w1
 rw [show ((1 + d.length + 3 + l.length : Nat) : Int) = 1 + (d.length : Int) + 3 + (l.length : Int) by omega] at CO
 obtain ⟨size, hsz⟩ : ∃ n, n = 1 + d.length + 3 + l.length := ⟨_, rfl⟩
 rw [← hsz] at CO HLL
 have CO := Hi CO
 have hs1 : size ≤ 1 + d.length + 3 + l.length := by omega
 have hs2 : 1 + d.length + 3 + l.length ≤ size := by omega
 clear hsz
 go_enter Tryz.func165, Tryz.ntmps165
 go_wp2_with fail
 refine D.out.mono ?_
 rintro e w1 ⟨rfl, hb⟩
 clear D
 go_wp2_with fail
 refine (CO.out _).mono ?_
 rintro e w2 ⟨g, bu, ba, rfl, hC, h2⟩
 have hz := hb.size
 have hz2 := h2.size
 have hB2 := YA hb h2
 clear CO hb h2
 obtain ⟨cap, w3, hcs, h3, hP, hcap, hw3, _⟩ := convB w2 (ByteArray.mk #[123] ++ ByteArray.mk d.toArray ++ ByteArray.mk #[125, 13, 10]) _ (headS_size d)
 rw [headS_list] at hP
 have hB3 := YA hB2 h3
 have P1 := Hi (put_at w1.heap.size g bu ba size [] (123 :: (d ++ [125, 13, 10])) _ _ cap (1 + d.length + 3) (1 + d.length + 3) (by simp; omega) (by simp) (by omega) (by omega) w3 (hC.below h3) hP)
 clear hC h3 hP hw3 hB2
 go_wp2_with fail
 refine P1.out.mono ?_
 rintro e w4 ⟨rfl, hC4, h4⟩
 have hB4 := hB3.trans (h4.mono hz)
 have P2 := Hi (put_at w1.heap.size g bu ba size ([] ++ (123 :: (d ++ [125, 13, 10]))) l _ A c l.length size rfl (by simp; omega) (by omega) (by omega) w4 hC4.out (HA.out.below hB4))
 clear P1 h4 hB3 hcs hC4
 go_wp2_with fail
 refine P2.out.mono ?_
 rintro e w5 ⟨rfl, hC5, h5⟩
 have hB5 := hB4.trans (h5.mono hz)
 have HR := Hi hC5.out.read
 rw [List.nil_append, ← HL.out] at HR
 go_wp2_with fail
 go_ret
 exact ⟨_, _, by rw [HLL.out]; rfl, HR.out, hB5⟩
theorem best_any (B : Nat) (A : Option Addr) (c : Nat) (l : List UInt8) (hl : l.length ≤ 1000000) (w : World) (henv : Env w) (hA : ByAt B w A c l) :
 Calls Tryz.prog 190 #[.slice A l.length c] w fun e w' => ∃ A' c', e = .returned (.slice A' (bestL l).length c') ∧ ByAt w'.heap.size w' A' c' (bestL l) ∧ Below w.heap.size w w' := by
 have Q := quoted_any B A c l hl w hA
 cases ha : allT l with
 | true =>
   have HB := Hi (show bestL l = quotedL l by unfold bestL; rw [if_pos ha])
   rw [ha, if_pos rfl] at Q
   have Q := Hi Q
   generalize bestL l = L at *
   generalize quotedL l = q at *
   obtain rfl := HB.out
   clear ha hA henv HB
   go_enter Tryz.func190, Tryz.ntmps190
   go_wp2_with fail
   refine Q.out.mono ?_
   rintro e w1 ⟨rfl, hb⟩
   obtain ⟨cap, w3, hcs, h3, hP, hcap, hw3, _⟩ := convB w1 ⟨L.toArray⟩ L.length (by show L.toArray.size = _; simp)
   have hB3 := YA hb h3
   have HP := Hi hP
   clear Q hP hw3 h3 hb
   go_wp2_with fail
   go_ret
   exact ⟨_, _, rfl, HP.out, hB3⟩
 | false =>
   have HB := Hi (show bestL l = YS l by unfold bestL; rw [if_neg (by simp [ha])])
   rw [ha, if_neg (by simp)] at Q
   have Q := Hi Q
   have L1 := Hi (fun w1 (hb : Below w.heap.size w w1) => literal_any w.heap.size A c l hl w1 (henv.below hb) (hA.here.below hb))
   generalize bestL l = L at *
   generalize YS l = q at *
   obtain rfl := HB.out
   clear ha hA henv HB
   go_enter Tryz.func190, Tryz.ntmps190
   go_wp2_with fail
   refine Q.out.mono ?_
   rintro e w1 ⟨rfl, hb⟩
   go_wp2_with fail
   refine (L1.out _ hb).mono ?_
   rintro e w2 ⟨A', c', rfl, hR, h2⟩
   have HR := Hi hR
   have hB2 := YA hb h2
   clear Q L1 hR h2
   go_wp2_with fail
   go_ret
   exact ⟨_, _, rfl, HR.out, hB2⟩
end
section
open Go.Shelf
abbrev TB : TypeId := 76
abbrev IsB (B b : Nat) (l : List UInt8) (w : World) : Prop := Lib.IsBuilder TB 5 B b (Lib.byteCells l) w
def KeepsB (w w' : World) : Prop := ∀ T, T ≠ TB → T ≠ 5 → YR T w w'
theorem KeepsB.keeps {w w' : World} (h : KeepsB w w') {T : TypeId} (h1 : T ≠ TB) (h2 : T ≠ 5) : YR T w w' := h T h1 h2
theorem IsB.below {B b : Nat} {l : List UInt8} {w w' : World} (h : IsB B b l w) (hb : Below w.heap.size w w') : IsB B b l w' := by
 have one : ∀ p, Lib.BuilderAt TB 5 B b p (Lib.byteCells l) w → Lib.BuilderAt TB 5 B b p (Lib.byteCells l) w' := by
  rintro p ⟨h1, v, h2, h3, h4⟩
  refine ⟨h1, v, (hb.block b (Array.getElem?_eq_some_iff.1 h2).1).trans h2, ⟨h3.1, ?_⟩, h4⟩
  rcases h3.2 with e | ⟨g, cap, cur, e1, e2, e3, e4⟩
  · exact .inl e
  · exact .inr ⟨g, cap, cur, e1, e2, (hb.block g (Array.getElem?_eq_some_iff.1 e3).1).trans e3, e4⟩
 exact h.elim (fun x => .inl (one _ x)) (fun x => .inr (one _ x))
theorem sizeBuilder : (Tryz.prog.info? TB).map (·.size) = some 2 := by kernel_rfl
theorem liesBuilder : liesAt Tryz.prog Tryz.prog.depth TB (2 / Tryz.prog.cellsOf TB) 0 TB 1 = true := by kernel_rfl
theorem copyCheck_used (b : Nat) (w : World) (h0 : w.cell? ⟨b, 0, none⟩ = some (.pointer (some ⟨b, 0, none⟩))) :
 Calls Tryz.prog 77 #[.pointer (some ⟨b, 0, none⟩)] w fun e w' => e = .returned (.tuple #[]) ∧ w' = w := by
 obtain ⟨j, hj, _⟩ := Option.map_eq_some_iff.1 sizeBuilder
 go_enter Tryz.func77, Tryz.ntmps77
 go_wp2
 rw [Lib.run_neq_ptr_same w _ Tryz.underlying74 hj]
 go_wp2
 go_end0
 exact ⟨rfl, rfl⟩
theorem copyCheck_fresh (b : Nat) (w : World) (h0 : w.cell? ⟨b, 0, none⟩ = some (.pointer none)) (hsh : w.shape? b = some (TB, 2)) (hfz : w.frozen? ⟨b, 0, none⟩ = false) :
 Calls Tryz.prog 77 #[.pointer (some ⟨b, 0, none⟩)] w fun e w' => e = .returned (.tuple #[]) ∧ w' = w.setCell ⟨b, 0, none⟩ (.pointer (some ⟨b, 0, none⟩)) := by
 obtain ⟨j, hj, hjs⟩ := Option.map_eq_some_iff.1 sizeBuilder
 go_enter Tryz.func77, Tryz.ntmps77
 go_wp2
 rw [Lib.run_to_unsafe w ⟨b, 0, none⟩ Tryz.underlying74 Tryz.underlying167 hj (by rw [hjs]; decide) hsh (Nat.zero_lt_succ 1)]
 simp only [Result.andThen]
 rw [Oper.upon_value]
 go_wp2
 rw [run_callFunc_extern Tryz.func119 (by kernel_rfl) (by kernel_rfl) (by kernel_rfl) (e := Extern.AbiNoEscape.same) (by kernel_rfl)]
 rw [Lib.run_noEscape]
 simp only [Result.andThen]
 rw [Oper.upon_value]
 go_wp2
 rw [Lib.run_from_unsafe w ⟨b, 0, none⟩ Tryz.underlying167 Tryz.underlying74 hj hsh liesBuilder]
 simp only [Result.andThen]
 rw [Oper.upon_value]
 go_wp2
 go_end0
 exact ⟨rfl, rfl⟩
theorem copyCheck_any (B b : Nat) (bs : List Value) (w : World) (h : Lib.IsBuilder TB 5 B b bs w) :
 Calls Tryz.prog 77 #[.pointer (some ⟨b, 0, none⟩)] w fun e w' => e = .returned (.tuple #[]) ∧ (Lib.BuilderAt TB 5 B b (.pointer (some ⟨b, 0, none⟩)) bs w' ∧ Below B w w' ∧ KeepsB w w') := by
 rcases h with h | h
 · refine (copyCheck_fresh b w h.cell0 h.shape h.frozen0).mono ?_
   rintro e w' ⟨rfl, rfl⟩
   obtain ⟨_, v, hbk, _⟩ := id h
   exact ⟨rfl, h.used _, (Below.refl B w).setCell (p := ⟨b, 0, none⟩) h.1 _, fun T h1 _ => (YR.refl T w).setAt hbk h1.symm 0 _⟩
 · refine (copyCheck_used b w h.cell0).mono ?_
   rintro e w' ⟨rfl, rfl⟩
   exact ⟨rfl, h, Below.refl B _, fun T _ _ => YR.refl T _⟩
theorem builder_behind {b : Nat} {v : Value} {w1 w2 : World} {row : Option Nat} (hbk : w1.heap[b]? = some (.cells #[.pointer (some ⟨b, 0, none⟩), v] TB (0, 0))) (hgrow : w1.grownBy w2 row) (hne : row ≠ some b) :
 w2.heap[b]? = some (.cells #[.pointer (some ⟨b, 0, none⟩), v] TB (0, 0)) :=
 (hgrow.block b (Array.getElem?_eq_some_iff.1 hbk).1 (fun e => hne e.symm)).trans hbk
theorem writeByte_any (B b : Nat) (l : List UInt8) (c : UInt8) (w : World) (h : IsB B b l w) (hlen : l.length + 1 ≤ 140737488355328) (hBw : B ≤ w.heap.size) :
 Calls Tryz.prog 194 #[.pointer (some ⟨b, 0, none⟩), .int .u8 (c.toNat : Int)] w fun e w' => e = .returned .nilIface ∧ IsB B b (l ++ [c]) w' ∧ Below B w w' ∧ KeepsB w w' := by
 obtain ⟨i0, hi, hz0, hz1, hz2⟩ := info_parts infoByte
 have hbl : (Lib.byteCells l).length + 1 ≤ 140737488355328 := by rw [Lib.byteCells_length]; exact hlen
 go_enter Tryz.func194, Tryz.ntmps194
 go_wp2_with fail
 refine (copyCheck_any B b _ _ h).mono ?_
 rintro e w1 ⟨rfl, h1, hb1, hk1⟩
 have HK1 := Hi hk1
 clear hk1
 obtain ⟨hB, v, hbk, hown, hne⟩ := h1
 have c0 : w1.cell? ⟨b, 0, none⟩ = some (.pointer (some ⟨b, 0, none⟩)) := by rw [Lib.cell_of_heap hbk]; rfl
 have c1 : w1.cell? ⟨b, 1, none⟩ = some v := by rw [Lib.cell_of_heap hbk]; rfl
 go_wp2_with (at_builtin; refine wpList_append_own _ rfl _ _ 24 rfl B 5 i0 (.int .u8 0) 1 1 Tryz.underlying24 hi hz0 hz1 hz2 rfl (by decide) _ _ _ rfl (hown.alloc _) ⟨w1.heap.size, 0, none⟩ 1 1 [.int .u8 (c.toNat : Int)] rfl rfl (by intro j u hj; match j, hj with | 0, hj => simp at hj; subst hj; simp [Addr.add]) (by intro u hu; simp at hu; subst hu; rfl) (by unfold maxLen; omega) (by omega) (by have := hb1.size; simp; omega) ?_)
 intro v' w2 hown' hgrow _
 have hg1 : w1.grownBy w2 v.ownBlock := by
  have ha := World.grownBy_alloc w1 (.cells #[.int .u8 (c.toNat : Int)] 5) v.ownBlock
  exact ⟨hgrow.os.trans ha.os, hgrow.tape.trans ha.tape, hgrow.output.trans ha.output, Nat.le_trans ha.size hgrow.size, fun k hk hne => (hgrow.block k (Nat.lt_of_lt_of_le hk ha.size) hne).trans (ha.block k hk hne)⟩
 have hb2 := builder_behind hbk hg1 hne
 have d0 : w2.cell? ⟨b, 0, none⟩ = some (.pointer (some ⟨b, 0, none⟩)) := by rw [Lib.cell_of_heap hb2]; rfl
 have d1 : w2.cell? ⟨b, 1, none⟩ = some v := by rw [Lib.cell_of_heap hb2]; rfl
 have f1 : w2.frozen? ⟨b, 1, none⟩ = false := Lib.frozen_of_heap hb2 1
 obtain ⟨g, cap, rfl⟩ : ∃ g cap, v' = .slice (some ⟨g, 0, none⟩) ((Lib.byteCells l).length + 1) cap := by
  rcases hown'.2 with ⟨_, h0⟩ | ⟨g, cap, cur, hv, _⟩
  · omega
  · exact ⟨g, cap, hv⟩
 have hbB := hb1.grown hg1 (by have := hb1.size; omega) (fun k hk => (hown.lt k hk).1)
 have HK := Hi (fun T (h1 : T ≠ TB) (h2 : T ≠ 5) => keepsT_t (HK1.out T h1 h2) (YR.app hown h2.symm hgrow))
 have HO := Hi hown'
 have HB2 := Hi hb2
 clear hown' hown hgrow hg1 hbk hb2 hne hb1 h
 go_wp2
 go_ret
 refine ⟨rfl, .inr ?_, hbB.setCell (p := ⟨b, 1, none⟩) hB _, fun T h1 h2 => (HK.out T h1 h2).setAt HB2.out h1.symm 1 _⟩
 have := Lib.BuilderAt.put (T := TB) (e := 5) hB HB2.out (bs' := Lib.byteCells (l ++ [c])) (v' := .slice (some ⟨g, 0, none⟩) ((Lib.byteCells l).length + 1) cap) (by rw [Lib.byteCells_append, List.length_append]; exact HO.out) (by decide)
 exact this
theorem writeString_any (B b : Nat) (l : List UInt8) (s : ByteArray) (w : World) (h : IsB B b l w) (hlen : l.length + s.size ≤ 140737488355328) (hBw : B ≤ w.heap.size) :
 Calls Tryz.prog 42 #[.pointer (some ⟨b, 0, none⟩), .string s] w fun e w' => e = .returned (.tuple #[.int .i64 s.size, .nilIface]) ∧ IsB B b (l ++ s.data.toList) w' ∧ Below B w w' ∧ KeepsB w w' := by
 obtain ⟨i0, hi, hz0, hz1, hz2⟩ := info_parts infoByte
 have hbl : (Lib.byteCells l).length + s.size ≤ 140737488355328 := by rw [Lib.byteCells_length]; exact hlen
 go_enter Tryz.func42, Tryz.ntmps42
 go_wp2_with fail
 refine (copyCheck_any B b _ _ h).mono ?_
 rintro e w1 ⟨rfl, h1, hb1, hk1⟩
 have HK1 := Hi hk1
 clear hk1
 obtain ⟨hB, v, hbk, hown, hne⟩ := h1
 have c0 : w1.cell? ⟨b, 0, none⟩ = some (.pointer (some ⟨b, 0, none⟩)) := by rw [Lib.cell_of_heap hbk]; rfl
 have c1 : w1.cell? ⟨b, 1, none⟩ = some v := by rw [Lib.cell_of_heap hbk]; rfl
 go_wp2_with (at_builtin; refine Lib.wpList_append_own_string _ rfl _ _ 24 9 rfl B 5 i0 Tryz.underlying24 Tryz.underlying9 hi hz0 hz1 hz2 _ _ _ rfl hown s rfl (by unfold maxLen; omega) (by omega) (by have := hb1.size; omega) ?_)
 intro v' w2 hown' hgrow _
 have hb2 := builder_behind hbk hgrow hne
 have d0 : w2.cell? ⟨b, 0, none⟩ = some (.pointer (some ⟨b, 0, none⟩)) := by rw [Lib.cell_of_heap hb2]; rfl
 have d1 : w2.cell? ⟨b, 1, none⟩ = some v := by rw [Lib.cell_of_heap hb2]; rfl
 have f1 : w2.frozen? ⟨b, 1, none⟩ = false := Lib.frozen_of_heap hb2 1
 obtain ⟨ao, n', cap, rfl⟩ : ∃ ao n' cap, v' = .slice ao n' cap := by
  rcases hown'.2 with ⟨hv, _⟩ | ⟨g, cap, cur, hv, _⟩
  · exact ⟨_, _, _, hv⟩
  · exact ⟨_, _, _, hv⟩
 have hbB := hb1.grown hgrow (by have := hb1.size; omega) (fun k hk => (hown.lt k hk).1)
 have HK := Hi (fun T (h1 : T ≠ TB) (h2 : T ≠ 5) => keepsT_t (HK1.out T h1 h2) (YR.own_app hown h2.symm hgrow))
 have HO := Hi hown'
 have HB2 := Hi hb2
 clear hown' hown hgrow hbk hb2 hne hb1 h
 go_wp2
 go_ret2
 refine ⟨rfl, .inr ?_, hbB.setCell (p := ⟨b, 1, none⟩) hB _, fun T h1 h2 => (HK.out T h1 h2).setAt HB2.out h1.symm 1 _⟩
 exact Lib.BuilderAt.put (T := TB) (e := 5) hB HB2.out (bs' := Lib.byteCells (l ++ s.data.toList)) (by rw [Lib.byteCells_append, ← Lib.strCells_eq, List.length_append, Lib.strCells_length]; exact HO.out) (by decide)
theorem builderString_any (B b : Nat) (l : List UInt8) (w : World) (h : IsB B b l w) (hBw : B ≤ w.heap.size) :
 Calls Tryz.prog 44 #[.pointer (some ⟨b, 0, none⟩)] w fun e w' => e = .returned (.string ⟨l.toArray⟩) ∧ Below B w w' := by
 have hx := Any.Builder_String_any Tryz.lays169 Tryz.Builder_Extra_169 B b l w h hBw
 exact hx
end
theorem point_any (n : Nat) (w : World) :
 Calls Tryz.prog 214 #[.int .u32 n] w fun e w' => e = .returned (.agg #[.int .u32 n, .int .u32 n]) ∧ Below w.heap.size w w' := by
 go_enter Tryz.func214, Tryz.ntmps214
 go_wp2
 exact bodyPost_ret (v := .agg #[.int .u32 n, .int .u32 n]) (by simp [results, Tryz.results214, go_sem]) rfl ⟨rfl, by repeat (first | exact Below.refl _ _ | refine Below.setCell ?_ (by simp) _ | refine Below.alloc ?_ (by simp) _)⟩
theorem infoR : (Tryz.prog.info? 50).map (fun i => (i.zero, i.size, i.bytes)) = some (some (.agg #[.int .u32 0, .int .u32 0]), 2, 8) := by kernel_rfl
theorem cells_new2 {W : World} {b : Nat} (hb : b = W.heap.size) (x y : Value) (T : TypeId) : ∀ (j : Nat) (u : Value), [x, y][j]? = some u → (W.alloc (.cells #[x, y] T)).cell? ((⟨b, 0, none⟩ : Addr).add j) = some u := by
 subst hb
 intro j u hj
 rw [Addr.add_lit]
 match j, hj with
 | 0, hj => simp at hj; subst hj; simp
 | 1, hj => simp at hj; subst hj; simp
section
open Go.Shelf Go.Sort
theorem printNumber_any (n : Nat) (hn : n ≤ 4294967295) (w : World) (henv : Env w) :
 Calls Tryz.prog 215 #[.int .u32 n] w fun e w' => e = .returned (.string ⟨(formN n).toArray⟩) ∧ Below w.heap.size w w' := by
 unfold formN
 by_cases h0 : n = 0
 · subst h0
   clear henv
   go_enter Tryz.func215, Tryz.ntmps215
   go_wp2
   go_ret
   exact ⟨rfl, Below.refl _ _⟩
 · have D := Hi (decimal_any n hn w henv)
   rw [if_neg h0]
   clear henv
   generalize Lib.decDigits n = d at *
   have h3 : ¬ (n : Int) = 0 := by omega
   go_enter Tryz.func215, Tryz.ntmps215
   go_wp2_with fail
   refine D.out.mono ?_
   rintro e w1 ⟨rfl, hb⟩
   go_wp2_with fail
   go_ret
   exact ⟨rfl, hb⟩
theorem eqlR : EqlAt Tryz.prog 50 (fun x => .agg (encR x).toArray) (fun x y => x.1 == y.1 && x.2 == y.2) := by
 refine ⟨fun x y w => ?_, GuardAt.agg _ (by kernel_rfl)⟩
 have u3 := Tryz.underlying48
 have a3 := Tryz.isAgg48
 have z3 := Tryz.sizeOf48
 have hS : Tryz.prog.underlying 50 = some (.struct (Tryz.prog.fieldsOf 50)) := by kernel_rfl
 have hp : Tryz.prog.stoodInHeld 50 = false := by kernel_rfl
 simp only [encR]
 rw [run_eql_struct, show (10000 : Nat) = 9999 + 1 from rfl, run_equalIn_agg w 9999 50 _ _ hS hp]
 simp only [Program.fieldsOf, Tryz.underlying50]
 have e1 : ((x.fst : Int) = (y.fst : Int)) = (x.fst = y.fst) := propext ⟨by omega, by omega⟩
 have e2 : ((x.snd : Int) = (y.snd : Int)) = (x.snd = y.snd) := propext ⟨by omega, by omega⟩
 go_simp
 by_cases h1 : x.fst = y.fst <;> by_cases h2 : x.snd = y.snd <;> simp [h1, h2]
theorem qb {F : FuncId} {args : Array Value} {w : World} {v : Value} (h : ∀ w1, Below w.heap.size w w1 → Calls Tryz.prog F args w1 fun e w' => e = .returned v ∧ Below w1.heap.size w1 w') (d : Nat) (os : Array Obj) :
 Calls Tryz.prog F args (grow (redrawn w d) os) fun e w'' => e = .returned v ∧ ∃ p : Regrown, w'' = grow (redrawn w p.d) p.os := Calls.regrown_of (h _ (below_regrown _ _ _))
theorem printRange_any (lo hi : Nat) (h1 : lo ≤ 4294967295) (h2 : hi ≤ 4294967295) (w : World) (henv : Env w) :
 Calls Tryz.prog 195 #[.agg #[.int .u32 lo, .int .u32 hi]] w fun e w' => e = .returned (.string ⟨(formR (lo, hi)).toArray⟩) ∧ Below w.heap.size w w' := by
 have HW := Below.alloc (Below.refl w.heap.size w) (Nat.le_refl _) (Obj.cells #[.int .u32 (lo : Int), .int .u32 (hi : Int)] 50)
 have cp := qb (w := w.alloc (Obj.cells #[.int .u32 (lo : Int), .int .u32 (hi : Int)] 50)) (fun w1 _ => point_any lo w1)
 have N1 := fun w1 (hB : Below w.heap.size w w1) => Hi (printNumber_any lo h1 w1 (henv.below hB))
 have N2 := fun w1 (hB : Below w.heap.size w w1) => Hi (printNumber_any hi h2 w1 (henv.below hB))
 clear henv
 have k0 := fun d os => cell_regrown (w := w.alloc (Obj.cells #[.int .u32 (lo : Int), .int .u32 (hi : Int)] 50)) (a := ⟨w.heap.size, 0, none⟩) (v := .int .u32 (lo : Int)) (by simp) d os
 have k1 := fun d os => cell_regrown (w := w.alloc (Obj.cells #[.int .u32 (lo : Int), .int .u32 (hi : Int)] 50)) (a := ⟨w.heap.size, 1, none⟩) (v := .int .u32 (hi : Int)) (by simp) d os
 have hq : ∀ W, Sem.run Tryz.prog (binOp .eql 50 (.agg #[.int .u32 (lo : Int), .int .u32 (hi : Int)]) (.agg #[.int .u32 (lo : Int), .int .u32 (lo : Int)])) W = .ok (.bool (lo == lo && hi == lo)) W := fun W => eqlR.1 (lo, hi) (lo, lo) W
 have hg : ∀ (op : BinOp) (a b : Operand) (W : World), Sem.run Tryz.prog (eqGuard op 50 a b (.agg #[.int .u32 (lo : Int), .int .u32 (hi : Int)]) (.agg #[.int .u32 (lo : Int), .int .u32 (lo : Int)])) W = .ok () W := fun op a b W => eqlR.2 op a b (lo, hi) (lo, lo) W
 by_cases he : lo = hi
 · subst he
   have hr : formR (lo, lo) = formN lo := by simp [formR]
   rw [hr]
   clear hr N2
   generalize formN lo = f at *
   simp only [beq_self_eq_true, Bool.and_self] at hq
   go_enter Tryz.func195, Tryz.ntmps195
   go_wp2_with fail
   refine wp_region_quiet_below (by kernel_rfl) (by kernel_rfl) ?_
   repeat (quiet_step (exact cp _ _))
   refine wpQuiet_nil ?_
   intro _ hw'
   obtain ⟨⟨dq, osq⟩, hw''⟩ := hw'
   subst hw''
   have hb : Below w.heap.size w (grow (redrawn (w.alloc (Obj.cells #[.int .u32 (lo : Int), .int .u32 (lo : Int)] 50)) dq) osq) := HW.trans ((below_regrown _ _ _).mono (by simp))
   have k2 := k0 dq osq
   clear k0 k1 hq hg cp HW
   generalize grow (redrawn (w.alloc (Obj.cells #[.int .u32 (lo : Int), .int .u32 (lo : Int)] 50)) dq) osq = W at *
   go_wp2_with fail
   refine (N1 _ hb).out.mono ?_
   rintro e w1 ⟨rfl, hb1⟩
   go_wp2_with fail
   go_ret
   exact ⟨rfl, YA hb hb1⟩
 · have hr : formR (lo, hi) = formN lo ++ 58 :: formN hi := by simp [formR, he]
   rw [hr]
   have l1 := (formN_len h1).1
   have l2 := (formN_len h2).1
   have hs : (ByteArray.mk (formN lo ++ 58 :: formN hi).toArray) = (ByteArray.mk (formN lo).toArray ++ ByteArray.mk #[58]) ++ ByteArray.mk (formN hi).toArray := by
    apply ByteArray.ext
    simp
   rw [hs]
   clear hr hs
   have m1 : (ByteArray.mk (formN lo).toArray).size ≤ 10 := by simpa [ByteArray.size] using l1
   have m2 : (ByteArray.mk (formN hi).toArray).size ≤ 10 := by simpa [ByteArray.size] using l2
   clear l1 l2
   generalize ByteArray.mk (formN lo).toArray = s1 at *
   generalize ByteArray.mk (formN hi).toArray = s2 at *
   have hb0 : (lo == lo && hi == lo) = false := by simp; omega
   rw [hb0] at hq
   clear hb0
   go_enter Tryz.func195, Tryz.ntmps195
   go_wp2_with fail
   refine wp_region_quiet_below (by kernel_rfl) (by kernel_rfl) ?_
   repeat (quiet_step (exact cp _ _))
   refine wpQuiet_nil ?_
   intro _ hw'
   obtain ⟨⟨dq, osq⟩, hw''⟩ := hw'
   subst hw''
   have hb : Below w.heap.size w (grow (redrawn (w.alloc (Obj.cells #[.int .u32 (lo : Int), .int .u32 (hi : Int)] 50)) dq) osq) := HW.trans ((below_regrown _ _ _).mono (by simp))
   have k2 := k0 dq osq
   have k3 := k1 dq osq
   clear k0 k1 hq hg cp HW
   generalize grow (redrawn (w.alloc (Obj.cells #[.int .u32 (lo : Int), .int .u32 (hi : Int)] 50)) dq) osq = W at *
   have q1 := qb (w := W) (fun w1 hB => (N1 w1 (hb.trans (hB.mono hb.size))).out)
   have q2 := qb (w := W) (fun w1 hB => (N2 w1 (hb.trans (hB.mono hb.size))).out)
   have k0 := fun d os => cell_regrown k2 d os
   have k1 := fun d os => cell_regrown k3 d os
   have n1 : ¬ 9223372036854775807 < s1.size + 1 := by omega
   have n2 : ¬ 9223372036854775807 < s1.size + 1 + s2.size := by omega
   clear N1 N2 k2 k3
   go_wp2_with fail
   refine wp_region_quiet_below (by kernel_rfl) (by kernel_rfl) ?_
   repeat (quiet_step (first | exact q1 _ _ | exact q2 _ _))
   refine wpQuiet_nil ?_
   intro _ hw'
   obtain ⟨⟨dq, osq⟩, hw''⟩ := hw'
   subst hw''
   go_wp2_with fail
   go_ret
   exact ⟨rfl, YA hb (below_regrown _ _ _)⟩
theorem print_any (A : Option Addr) (c : Nat) (l : List R) (hn : l.length ≤ 1000000000) (hb : ∀ r ∈ l, r.1 ≤ 4294967295 ∧ r.2 ≤ 4294967295) (w : World) (hS : SlAt encR 2 w A l) (henv : Env w) :
 Calls Tryz.prog 166 #[.slice A l.length c] w fun e w' => e = .returned (.string ⟨(printL l).toArray⟩) ∧ Below w.heap.size w w' := by
 have HS := Hi hS
 have HE := fun w1 (hB : Below w.heap.size w w1) => Hi (henv.below hB)
 have HBd := Hi hb
 clear hS henv hb
 go_enter Tryz.func166, Tryz.ntmps166
 go_wp2_with fail
 go_loopw [8] (fun i wr => ∃ k : Nat, k ≤ l.length ∧ i = .int .i64 k ∧ IsB w.heap.size w.heap.size (printL (l.take k)) wr ∧ Below w.heap.size w wr)
  (fun i _ => l.length - (intOf i).toNat)
 case atStart =>
  refine ⟨0, Nat.zero_le _, rfl, .inl ⟨Nat.le_refl _, .slice none 0 0, by simpa using YD w _, World.ownsRow_nil _ _ _ _, by simp [Value.ownBlock]⟩, (Below.refl _ _).alloc (Nat.le_refl _) _⟩
 case round =>
  obtain ⟨k, hk, rfl, hI, hB⟩ := hrel
  by_cases hlt : k < l.length
  · obtain ⟨b, off, rfl, hbl, hc0, hc1⟩ := (HS.out.below hB).pair hlt
    have hbr := HBd.out l[k] (List.getElem_mem _)
    have HT := Hi (printL_take l k hlt)
    have hpl := printL_len l HBd.out k hk
    have HI := Hi hI
    clear hI HBd HS
    generalize l[k] = r at *
    generalize printL (l.take k) = P at *
    obtain ⟨lo, hi⟩ := r
    dsimp only at hc0 hc1 hbr
    have hfl := formR_len (r := (lo, hi)) hbr.1 hbr.2
    have hBs := hB.size
    have HB1 := hB.alloc hBs (.cells #[.int .u32 (lo : Int), .int .u32 (hi : Int)] 50)
    have HI1 := Hi (HI.out.below ((Below.refl _ wr).alloc (Nat.le_refl _) (.cells #[.int .u32 (lo : Int), .int .u32 (hi : Int)] 50)))
    have HX1 := Hi (World.alloc_heap_new wr (.cells #[.int .u32 (lo : Int), .int .u32 (hi : Int)] 50))
    by_cases h0 : 0 < k
    · have WB := Hi (writeByte_any _ _ P 44 _ HI1.out (by omega) (by simp; omega))
      have PR := fun w1 (hB : Below w.heap.size w w1) (he : Hid (Env w1)) => Hi (printRange_any lo hi hbr.1 hbr.2 w1 he.out)
      clear HI HI1
      generalize formR (lo, hi) = f at *
      go_wp2_with fail
      refine WB.out.mono ?_
      rintro e w2 ⟨rfl, hI2, hB2, hk2⟩
      have hx2 := (hk2 50 (by decide) (by decide)).box HX1.out
      have hc2 : w2.cell? ⟨wr.heap.size, 0, none⟩ = some (.int .u32 (lo : Int)) := box_cell hx2 0 _ rfl
      have hc3 : w2.cell? ⟨wr.heap.size, 1, none⟩ = some (.int .u32 (hi : Int)) := box_cell hx2 1 _ rfl
      have HBn := HB1.trans hB2
      have HEn := HE _ HBn
      have HI2 := Hi hI2
      clear hI2 hB2 hk2 hx2 WB HX1 HB1 HE
      go_wp2_with fail
      refine (PR _ HBn HEn).out.mono ?_
      rintro e w3 ⟨rfl, h3⟩
      have HI3 := Hi (HI2.out.below h3)
      have HB3 := HBn.trans (h3.mono HBn.size)
      clear PR HI2 HEn h3
      have hsz3 := HB3.size
      have WS := Hi (writeString_any _ _ _ ⟨f.toArray⟩ _ HI3.out (by simp [ByteArray.size]; omega) (by omega))
      clear HI3 HBn
      go_wp2_with fail
      refine WS.out.mono ?_
      rintro e w4 ⟨rfl, hI4, hB4, -⟩
      have HB4 := HB3.trans hB4
      have HI4 := Hi hI4
      clear hI4 hB4 WS HB3
      go_wp2_with fail
      go_roundw
      case rel => exact ⟨k + 1, by omega, by go_num, by rw [HT.out, if_pos h0, ← List.append_assoc]; exact HI4.out, HB4⟩
      case measure => simp [intOf]; omega
    · have PR := fun w1 (hB : Below w.heap.size w w1) (he : Hid (Env w1)) => Hi (printRange_any lo hi hbr.1 hbr.2 w1 he.out)
      have HI2 := HI1
      have HBn := HB1
      have HEn := HE _ HBn
      clear HI HI1 HX1 HB1 HE
      generalize formR (lo, hi) = f at *
      go_wp2_with fail
      refine (PR _ HBn HEn).out.mono ?_
      rintro e w3 ⟨rfl, h3⟩
      have HI3 := Hi (HI2.out.below h3)
      have HB3 := HBn.trans (h3.mono HBn.size)
      clear PR HI2 HEn h3
      have hsz3 := HB3.size
      have WS := Hi (writeString_any _ _ _ ⟨f.toArray⟩ _ HI3.out (by simp [ByteArray.size]; omega) (by omega))
      clear HI3 HBn
      go_wp2_with fail
      refine WS.out.mono ?_
      rintro e w4 ⟨rfl, hI4, hB4, -⟩
      have HB4 := HB3.trans hB4
      have HI4 := Hi hI4
      clear hI4 hB4 WS HB3
      go_wp2_with fail
      go_roundw
      case rel => exact ⟨k + 1, by omega, by go_num, by rw [HT.out, if_neg h0, List.nil_append]; exact HI4.out, HB4⟩
      case measure => simp [intOf]; omega
  · obtain rfl : k = l.length := by omega
    rw [List.take_length] at hI
    have S := Hi (builderString_any _ _ _ _ hI hB.size)
    clear hI HE HS HBd
    have HF : ∃ f, f = printL l := ⟨_, rfl⟩
    obtain ⟨f, hf⟩ := HF
    rw [← hf] at S
    have HF := Hi hf
    clear hf
    go_wp2_with fail
    refine S.out.mono ?_
    rintro e w1 ⟨rfl, h1⟩
    clear S
    go_wp2_with fail
    go_ret
    exact ⟨by rw [← HF.out]; rfl, hB.trans h1⟩
end
end Go.Proofs.YtpgfnlhfciacoaaGreatDoor
