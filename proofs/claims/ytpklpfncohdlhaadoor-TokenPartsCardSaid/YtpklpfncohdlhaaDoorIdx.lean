/- quote: bytes.IndexByte at a backslash; plain. -/
import Derived.Test.YtpklpfncohdlhaaDoorCol
import Derived.Test.YtpklpfncohdlhaaDoorSMath
import Derived.Shelf.Bytes.SlIndexAt
import Derived.Lib.IndexLaws
namespace Go.Proofs.YtpklpfncohdlhaaDoor
open Go.RowKit

set_option maxRecDepth 100000 in
set_option maxHeartbeats 1000000 in
theorem idx92_any (B : Nat) (A : Option Addr) (c : Nat) (l : List UInt8) (n : Nat) (hn : l.length = n) (w : World) (hA : ByAt B w A c l) :
    Calls Tryd.prog 47 #[.slice A n c, .int .u8 92] w fun e w' => e = .returned (.int .i64 (Lib.indexByte l 92)) ∧ w = w' := by
  have hrun : (Extern.BytealgIndexByte.indexByte #[.slice A n c, .int .u8 92]).run Tryd.prog w = .ok (.int .i64 (Lib.indexByte l 92)) w := by
    rcases hA.lies with rfl | ⟨b, off, rfl, _, _, hc⟩
    · subst hn
      rcases A with _ | a
      · exact Lib.run_indexByteNil w 0 c 92
      · exact Lib.run_indexByteAt (P := Tryd.prog) w a 0 c [] rfl (fun i hi => absurd hi (Nat.not_lt_zero _)) 92
    · have := Lib.run_indexByteSlice (P := Tryd.prog) w b off n c (l.map fun x => (x.toNat : Int)) (by rw [List.length_map, hn]) (fun i hi => by
        rw [hc i (by omega)]
        simp [List.getD_eq_getElem?_getD, List.getElem?_eq_getElem (show i < l.length by omega)]) 92
      have e : Lib.bytesOf (l.map fun x => (x.toNat : Int)) = l := by
        unfold Lib.bytesOf
        rw [List.map_map]
        conv => rhs; rw [← List.map_id l]
        exact List.map_congr_left fun x _ => by simp
      rw [e] at this
      exact this
  generalize Lib.indexByte l 92 = r at *
  have HR := Lib.hid hrun
  clear hrun hA
  go_enter Tryd.func47, Tryd.ntmps47
  go_wp2
  rw [run_callFunc_extern Tryd.func63 (by kernel_rfl) (by kernel_rfl) (by kernel_rfl) (e := Extern.BytealgIndexByte.indexByte) (by kernel_rfl), HR.out]
  simp only [Result.andThen]
  rw [Oper.upon_value]
  go_wp2
  go_ret
  exact ⟨rfl, rfl⟩

theorem idx_none {l : List UInt8} (h : Lib.indexByte l 92 = -1) : plainD l = l :=
  plain_none l fun hm => by
    obtain ⟨k, hk, he⟩ := List.mem_iff_getElem.1 hm
    exact Lib.indexByte_none h k (by rw [List.getElem?_eq_getElem hk, he])
theorem idx_some {l : List UInt8} {o : Nat} (h : Lib.indexByte l 92 = o) (hw : wfB l = true) : ∃ d, o + 1 < l.length ∧ l[o + 1]? = some d ∧ wfB (l.drop (o + 2)) = true ∧ plainD l = l.take o ++ d :: plainD (l.drop (o + 2)) := by
  obtain ⟨h1, h2⟩ := Lib.indexByte_some h
  obtain ⟨hlt, he⟩ := List.getElem?_eq_some_iff.1 h1
  have hsplit : l = l.take o ++ 92 :: l.drop (o + 1) := by
    conv => lhs; rw [← List.take_append_drop o l, List.drop_eq_getElem_cons hlt, he]
  have hno : (92 : UInt8) ∉ l.take o := fun hm => by
    obtain ⟨k, hk, hke⟩ := List.mem_iff_getElem.1 hm
    rw [List.length_take] at hk
    refine h2 k (by omega) ?_
    rw [List.getElem?_eq_getElem (by omega)]
    rw [List.getElem_take] at hke
    rw [hke]
  obtain ⟨d, v', e1, e2, e3⟩ := plain_at l _ _ hsplit hno hw
  have e4 : l.drop (o + 2) = v' := by
    rw [show o + 2 = (o + 1) + 1 by omega, ← List.drop_drop, e1]; rfl
  have e5 : l[o + 1]? = some d := by
    rw [← Nat.add_zero (o + 1), ← List.getElem?_drop, e1]; rfl
  exact ⟨d, (List.getElem?_eq_some_iff.1 e5).1, e5, by rw [e4]; exact e2, by rw [e4]; exact e3⟩
theorem plainD_len (b : List UInt8) : (plainD b).length ≤ b.length := by
  induction b using plainD.induct with
  | case1 => simp [plainD]
  | case2 c => simp [plainD]
  | case3 d r ih => simp [plainD]; omega
  | case4 c d r h92 ih => rw [plainD, if_neg h92]; simp at ih ⊢; omega

theorem byAt_val (w : World) (x : UInt8) : ByAt (w.heap.size + 1) (w.alloc (.cells #[.int .u8 (x.toNat : Int)] 5)) (some ⟨w.heap.size, 0, none⟩) 1 [x] := byAt_one w x _

set_option maxRecDepth 100000 in
set_option maxHeartbeats 2000000 in
theorem plain_any (B : Nat) (A : Option Addr) (c n : Nat) (l : List UInt8) (hn : l.length = n) (hl : l.length ≤ 1000000) (hw : wfB l = true) (w : World) (hA : ByAt B w A c l) :
    Calls Tryd.prog 60 #[.slice A n c] w fun e w' => ∃ g c', e = .returned (.slice (some ⟨g, 0, none⟩) (plainD l).length c') ∧ w'.ownsRow w.heap.size 5 1 (.slice (some ⟨g, 0, none⟩) (plainD l).length c') (plainD l).length (flatL encB (plainD l)) ∧ Below w.heap.size w w' := by
  have HA := Lib.hid hA.here
  have HW := Lib.hid hw
  have HN := Lib.hid hn
  have hn1 : n ≤ 1000000 := by omega
  have CO := Lib.hid (fun w1 => collector_any n (by omega) w1)
  have IX := Lib.hid (fun A c m b hm w1 (hb : ByAt w.heap.size w1 A c b) => idx92_any w.heap.size A c b m hm w1 hb)
  obtain ⟨P, hP⟩ : ∃ P, plainD l = P := ⟨_, rfl⟩
  have hPl := plainD_len l
  rw [hP, hn] at hPl
  rw [hP]
  have HP := Lib.hid hP
  clear hA hw hn hP
  have hse := fun x lo hi mx W => sliceAt_eq x lo hi mx W
  go_enter Tryd.func60, Tryd.ntmps60
  go_wp2_with fail
  refine (CO.out _).mono ?_
  rintro e w1 ⟨g, bu, ba, rfl, hC, hb⟩
  have HC := Lib.hid hC
  have HB := Lib.hid hb
  clear hC hb CO
  go_wp2_with fail
  go_loopg [0] n (fun gg s0 wr => ∃ (A' : Option Addr) (c' m : Nat) (b X : List UInt8), s0 = .slice A' m c' ∧ m ≤ gg ∧ m ≤ n ∧ m ≤ c' ∧ Hid (b.length = m) ∧ Hid (wfB b = true) ∧ Hid (X ++ plainD b = P) ∧ X.length + m ≤ n ∧ Hid (ByAt w.heap.size wr A' c' b) ∧ Hid (Col w.heap.size g bu ba n X wr) ∧ Hid (Below w.heap.size w wr))
  case atStart => exact ⟨A, c, n, l, [], rfl, Nat.le_refl _, Nat.le_refl _, by have := HA.out.le; have := HN.out; omega, HN, HW, HP, by simp, HA.out.below HB.out, HC, HB⟩
  case round =>
    obtain ⟨A', c', m, b, X, rfl, hgg, hmn, hmc, hbm, hbw, hXP, hXl, hbA, hXC, hB⟩ := hrel
    have I := IX.out A' c' m b hbm.out wr hbA.out
    have hge := Lib.indexByte_ge b 92
    by_cases hneg : Lib.indexByte b 92 = -1
    · have HPN := Lib.hid (show X ++ b = P by rw [← hXP.out, idx_none hneg])
      rw [hneg] at I
      have I := Lib.hid I
      have P1 := Lib.hid (put_at w.heap.size g bu ba n X b _ A' c' m P.length hbm.out (by rw [← HPN.out, List.length_append, hbm.out]) hPl (by omega) wr hXC.out hbA.out)
      clear hneg hge IX
      go_wp2_with fail
      refine I.out.mono ?_
      rintro e w2 ⟨rfl, rfl⟩
      go_wp2_with fail
      refine P1.out.mono ?_
      rintro e w3 ⟨rfl, hC3, h3⟩
      rw [HPN.out] at hC3
      have hB3 := Lib.hid (hB.out.trans h3)
      clear h3 P1 I
      go_wp2_with fail
      go_ret
      exact ⟨g, n, rfl, hC3.out.own (by omega), hB3.out⟩
    · obtain ⟨o, ho⟩ : ∃ o : Nat, Lib.indexByte b 92 = o := ⟨(Lib.indexByte b 92).toNat, by omega⟩
      obtain ⟨d, hol, hod, how, hoP⟩ := idx_some ho hbw.out
      rw [ho] at I
      have I := Lib.hid I
      rw [hbm.out] at hol
      have hsl1 := fun W => slice_h A' m c' o (by omega) W
      have hsl2 : ∀ W : World, (Instr.slice 22 (.slice A' m c') (some (.int .i64 ((o : Int) + 2))) none none).run Tryd.prog W = .ok (.slice (offA A' c' (o + 2)) (m - (o + 2)) (c' - (o + 2))) W := fun W => by
        have := slice_l A' m c' (o + 2) (by omega) W
        rwa [Int.natCast_add] at this
      have HNX := Lib.hid (show ((X ++ b.take o) ++ [d]) ++ plainD (b.drop (o + 2)) = P by rw [← hXP.out, hoP]; simp)
      have hno : ¬ ((o : Int) < 0) := by omega
      have HOD := Lib.hid hod
      have HOW := Lib.hid how
      have P1 := Lib.hid (put_at w.heap.size g bu ba n X (b.take o) _ A' c' o (X.length + o) (by rw [List.length_take, hbm.out]; omega) rfl (by omega) (by omega) wr hXC.out (hbA.out.take (hi := o) (by rw [hbm.out]; omega)))
      clear hneg hge IX ho hoP hod how
      go_wp2_with fail
      refine I.out.mono ?_
      rintro e w2 ⟨rfl, rfl⟩
      go_wp2_with fail
      refine P1.out.mono ?_
      rintro e w3 ⟨rfl, hC3, h3⟩
      have hB3 := Lib.hid (hB.out.trans h3)
      have hA3 := Lib.hid (hbA.out.below h3)
      obtain ⟨bb, off, he, _, _, hc⟩ := hA3.out.cell (j := o + 1) (by rw [hbm.out]; exact hol)
      rw [show b[o + 1]'(by rw [hbm.out]; exact hol) = d from (List.getElem?_eq_some_iff.1 HOD.out).2] at hc
      subst he
      have P2 := Lib.hid (put_at w.heap.size g bu ba n (X ++ b.take o) [d] _ _ 1 1 (X.length + o + 1) rfl (by rw [List.length_append, List.length_take, hbm.out]; omega) (by omega) (by omega) _ (hC3.out.below (below_al w3 (.cells #[.int .u8 (d.toNat : Int)] 5))) (byAt_val w3 d))
      clear h3 P1 I hC3
      go_wp2_with fail
      refine P2.out.mono ?_
      rintro e w4 ⟨rfl, hC4, h4⟩
      have hB4 := Lib.hid ((hB3.out.alloc hB3.out.size (.cells #[.int .u8 (d.toNat : Int)] 5)).trans h4)
      have hA4 := Lib.hid (((hA3.out.grow (below_al w3 (.cells #[.int .u8 (d.toNat : Int)] 5))).below h4).drop (lo := o + 2) (by rw [hbm.out]; omega))
      clear h4 P2 hc
      go_wp2_with fail
      go_roundg (m - (o + 2))
      case measure => omega
      case rel => exact ⟨_, _, m - (o + 2), b.drop (o + 2), _, rfl, by omega, by omega, by omega, (show (b.drop (o + 2)).length = m - (o + 2) by rw [List.length_drop, hbm.out]), HOW, HNX, by rw [List.length_append, List.length_append, List.length_take, hbm.out, List.length_singleton]; omega, hA4, hC4, hB4⟩
end Go.Proofs.YtpklpfncohdlhaaDoor
