/- The walk of the law IndexKeeps. -/
import Derived.Test.YtkehlknnonppjaaL12R
namespace Go.Proofs.Ytkehlknnonppjaa
open Go.RowKit

/-- A row of numbers of one's own, whatever they are. -/
def Inc (base : Nat) (A : Option Addr) (n c : Nat) (W : World) : Prop := ∃ xs : List Nat, W.ownsRow base 28 1 (.slice A n c) n (flatL encU xs)
theorem flatL_set (xs : List Nat) (k y : Nat) : (flatL encU xs).set k (.int .u32 (y : Int)) = flatL encU (xs.set k y) := by
  induction xs generalizing k with
  | nil => rfl
  | cons x xs ih =>
    cases k with
    | zero => rfl
    | succ k =>
      show encU x ++ (flatL encU xs).set k _ = encU x ++ flatL encU (xs.set k y)
      rw [ih]
theorem own_blk {base n : Nat} {A : Option Addr} {c : Nat} {xs : List Value} {W : World} (h : W.ownsRow base 28 1 (.slice A n c) n xs) (D : Nat) : ∃ ga, (A = some ⟨ga, 0, none⟩ ∧ base ≤ ga ∧ ga < W.heap.size) ∨ (n = 0 ∧ ga = D) := by
  rcases h.2 with ⟨_, h0⟩ | ⟨k, cap, cur, h1, h2, h3, _⟩
  · exact ⟨D, .inr ⟨h0, rfl⟩⟩
  · injection h1 with h1
    exact ⟨k, .inl ⟨h1, h2, (Array.getElem?_eq_some_iff.1 h3).1⟩⟩
theorem Inc.step {base n c ga k : Nat} {A : Option Addr} {W : World} (h : Inc base A n c W) (hk : k < n) (hA : A = some ⟨ga, 0, none⟩ ∨ n = 0) :
    ∃ x y : Nat, A = some ⟨ga, 0, none⟩ ∧ IntKind.u32.wrap ((x : Int) + 1) = (y : Int) ∧ W.cell? ⟨ga, k, none⟩ = some (.int .u32 (x : Int)) ∧ W.frozen? ⟨ga, k, none⟩ = false ∧ Hid (Inc base A n c (W.setCell ⟨ga, k, none⟩ (.int .u32 (y : Int)))) := by
  rcases hA with rfl | h0
  · obtain ⟨xs, ho⟩ := h
    have hl := ho.1
    rw [flatL_length encU_len] at hl
    have hkx : k < xs.length := by omega
    refine ⟨xs[k], (xs[k] + 1) % 4294967296, rfl, by rw [IntKind.wrap_u32]; omega, ?_, ho.frozenAt k, xs.set k ((xs[k] + 1) % 4294967296), ?_⟩
    · rw [ho.cellAt k (by omega)]
      have := flatL_at encU_len xs k xs[k] (List.getElem?_eq_getElem hkx) 0 _ rfl
      simpa using this
    · have := (ho.stored k (.int .u32 (((xs[k] + 1) % 4294967296 : Nat) : Int))).1
      rw [← flatL_set]
      exact this
  · omega
theorem grown_keep {w w' : World} {x B : Nat} (h : w.grownBy w' (some x)) (hx : B ≤ x) (hB : B ≤ w.heap.size) : Below B w w' :=
  ⟨h.os, h.tape, h.output, h.size, fun k hk => h.block k (by omega) (fun e => by injection e; omega)⟩

set_option maxRecDepth 100000 in
set_option maxHeartbeats 4000000 in
theorem indexKeeps_any (A : Option Addr) (c : Nat) (l : List Nat) (_ : l.length ≤ maxLen) (hb : ∀ n ∈ l, n ≤ 4294967295) (w : World) (hS : SlAt encU 1 w A l) :
    Calls Try.prog 7 #[.slice A l.length c] w fun e w' => e = .returned (.bool true) ∧ Below w.heap.size w w' := by
  have AL := fun W => Lib.hid (alive12_any W)
  by_cases h100 : l.length ≤ 100
  · have hg : ¬ (100 : Int) < (l.length : Int) := by omega
    obtain ⟨i0, hi0, hz0, hz1, hz2⟩ := info_parts infoU
    obtain ⟨O, hO, hOl⟩ := isSet_ex l
    have hB0 := below_al w (.cells #[] 28)
    have HS := Lib.hid (hS.below hB0)
    have HOE := Lib.hid (own_empty (sz := 1) (heap_alloc_new w (.cells #[] 28)) (Nat.le_refl _))
    have H63 := Lib.hid (show 0 + l.length ≤ maxLen by unfold maxLen; omega)
    have HBY := Lib.hid (show (0 + l.length) * 4 ≤ 140737488355328 by omega)
    have HSZ := Lib.hid hB0.size
    have HS0 := Lib.hid hS
    have FIN := Lib.hid (fun (v2 : Value) (w2 : World) (hown2 : w2.ownsRow w.heap.size 28 1 v2 (0 + l.length) ([] ++ flatL encU l)) (hg2 : (w.alloc (.cells #[] 28)).grownBy w2 (some w.heap.size)) =>
      show w2.ownsRow w.heap.size 28 1 v2 l.length (flatL encU l) ∧ Below w.heap.size w w2 ∧ w.heap.size < w2.heap.size from ⟨by rw [Nat.zero_add, List.nil_append] at hown2; exact hown2, hB0.grown hg2 hB0.size (fun kk hkk => by injection hkk; omega), by have := hg2.size; simp at this; omega⟩)
    have NW := Lib.hid (fun A2 c2 w1 (h : SlAt encU 1 w1 A2 l) => new_any A2 c2 l O (by omega) hb hO w1 h)
    have RN := Lib.hid (fun w1 (h : SlAt encU 1 w1 A l) => rnew_any (c := c) O (by omega) hb hO h)
    clear hS hb hO hB0
    go_enter Try.func7, Try.ntmps7
    go_wp2_with (at_builtin; refine wpList_append_sl _ rfl _ _ 22 rfl w.heap.size 28 i0 _ 4 Try.underlying22 hi0 hz0 hz1 hz2 rfl (by decide) _ 0 [] rfl HOE.out A l c rfl encU_len HS.out (one_flatU l) H63.out HBY.out HSZ.out ?_; intro vo w1 hown2 hg2; have F1 := Lib.hid (FIN.out vo w1 hown2 hg2); clear hown2 hg2)
    obtain ⟨Ao, co, rfl⟩ := own_any F1.out.1
    have O1 := Lib.hid F1.out.1
    have B1 := Lib.hid F1.out.2.1
    have hw1 := F1.out.2.2
    have N1 := Lib.hid (NW.out Ao co w1 (SlAt.of_own encU_len O1.out))
    clear NW FIN F1 HS HOE H63 HBY HSZ
    go_wp2_with fail
    refine N1.out.mono ?_
    rintro e w2 ⟨g, r, rfl, hgw, hrw, X2, Bx2⟩
    have O2 := Lib.hid (own_below O1.out Bx2.out)
    have B2 := Lib.hid (below_next B1.out (Bx2.out.mono (Nat.le_refl _)))
    have hs12 := Bx2.out.size
    have hgl2 := X2.out.lt
    have hrl2 := X2.out.ltr
    have ALL := Lib.hid (all_any (.inr ⟨rfl, X2.out⟩) (by omega))
    have hpos := Lib.hid X2.out.pos
    have HOB := Lib.hid (O1.out.lt)
    clear N1 O1 B1 Bx2
    go_wp2_with fail
    refine ALL.out.mono ?_
    rintro e w3 ⟨va, rfl, ha3, hb3⟩
    obtain ⟨Aa, ca, rfl⟩ := own_any ha3
    have X3 := Lib.hid (X2.out.below hb3)
    have O3 := Lib.hid (own_below O2.out hb3)
    have B3 := Lib.hid (below_next B2.out hb3)
    have A3 := Lib.hid ha3
    have hs23 := hb3.size
    have BT := between_any 0 4294967295 (.inr ⟨rfl, X3.out⟩) (.inr ⟨X3.out.lt, X3.out.ltr⟩) (by omega) X3.out.asc
    rw [bet_full hpos.out] at BT
    have BT := Lib.hid BT
    clear ALL X2 O2 B2 hb3 ha3 hpos
    go_wp2_with fail
    refine BT.out.mono ?_
    rintro e w4 ⟨vb, rfl, hb4o, hb4⟩
    obtain ⟨Ab, cb, rfl⟩ := own_any hb4o
    have X4 := Lib.hid (X3.out.below hb4)
    have O4 := Lib.hid (own_below O3.out hb4)
    have B4 := Lib.hid (below_next B3.out hb4)
    have A4 := Lib.hid (own_below A3.out hb4)
    have D4 := Lib.hid hb4o
    have HDB := Lib.hid D4.out.lt
    have HAB := Lib.hid A3.out.lt
    have hs34 := hb4.size
    obtain ⟨ga, hga⟩ := own_blk A3.out w4.heap.size
    have I4 := Lib.hid (show Inc w2.heap.size Aa O.length ca w4 from ⟨O, A4.out⟩)
    clear BT X3 O3 B3 A3 A4 hb4 hb4o
    have hAa : Aa = some ⟨ga, 0, none⟩ ∨ O.length = 0 := hga.imp And.left And.left
    go_wp2_with fail
    go_loopw [31] (fun si wr => ∃ k : Nat, si = .int .i64 k ∧ k ≤ O.length ∧ Hid (Inc w2.heap.size Aa O.length ca wr) ∧ Hid (w4.grownBy wr (some ga))) (fun si _ => O.length - (intOf si).toNat)
    case atStart => exact ⟨0, rfl, Nat.zero_le _, I4, World.grownBy.refl _ _⟩
    case round =>
      obtain ⟨k, rfl, hk, IK, GK⟩ := hrel
      clear I4
      by_cases hlt : k < O.length
      · obtain ⟨x, y, rfl, hw, hc, hf, hst⟩ := IK.out.step (ga := ga) hlt hAa
        have HST := Lib.hid hst
        clear hst
        go_wp2_with fail
        go_roundw
        case rel => exact ⟨k + 1, by go_num, by omega, HST.out, grown_set GK.out k _⟩
        case measure => simp [intOf]; omega
      · clear hk
        have hgaN : (w2.heap.size ≤ ga ∧ ga < w3.heap.size) ∨ ga = w4.heap.size := hga.elim (fun h => .inl ⟨h.2.1, by have := HAB.out ga (by rw [h.1]; rfl); omega⟩) (fun h => .inr h.2)
        have X5 := Lib.hid (X4.out.grown GK.out (by omega) (by omega))
        have O5 := Lib.hid (O4.out.kept GK.out (.inr (fun e => by have := HOB.out ga e; omega)))
        have B5 := Lib.hid (B4.out.trans (grown_keep GK.out (by omega) B4.out.size))
        have D5 := Lib.hid (D4.out.kept GK.out (.inr (fun e => by have := HDB.out ga e; omega)))
        have hs45 := GK.out.size
        obtain ⟨gb, hgbc⟩ := own_blk D5.out wr.heap.size
        have hAb : Ab = some ⟨gb, 0, none⟩ ∨ O.length = 0 := hgbc.imp And.left And.left
        have I5 := Lib.hid (show Inc w3.heap.size Ab O.length cb wr from ⟨O, D5.out⟩)
        clear X4 O4 B4 D4 D5 GK IK
        generalize wr = w5 at *
        go_wp2_with fail
        go_loopw [43] (fun si wr => ∃ k : Nat, si = .int .i64 k ∧ k ≤ O.length ∧ Hid (Inc w3.heap.size Ab O.length cb wr) ∧ Hid (w5.grownBy wr (some gb))) (fun si _ => O.length - (intOf si).toNat)
        case atStart => exact ⟨0, rfl, Nat.zero_le _, I5, World.grownBy.refl _ _⟩
        case round =>
          obtain ⟨k, rfl, hk, IK, GK⟩ := hrel
          clear I5
          by_cases hlt : k < O.length
          · obtain ⟨x, y, rfl, hw, hc, hf, hst⟩ := IK.out.step (ga := gb) hlt hAb
            have HST := Lib.hid hst
            clear hst
            go_wp2_with fail
            go_roundw
            case rel => exact ⟨k + 1, by go_num, by omega, HST.out, grown_set GK.out k _⟩
            case measure => simp [intOf]; omega
          · clear hk
            have hgbN : (w3.heap.size ≤ gb ∧ gb < w4.heap.size) ∨ gb = w5.heap.size := hgbc.elim (fun h => .inl ⟨h.2.1, by have := HDB.out gb (by rw [h.1]; rfl); omega⟩) (fun h => .inr h.2)
            have X6 := Lib.hid (X5.out.grown GK.out (by omega) (by omega))
            have O6 := Lib.hid (O5.out.kept GK.out (.inr (fun e => by have := HOB.out gb e; omega)))
            have B6 := Lib.hid (B5.out.trans (grown_keep GK.out (by omega) B5.out.size))
            have E6 := Lib.hid (eq_call (c := co) (d := c) (by omega) (SlAt.of_own encU_len O6.out) (HS0.out.below B6.out))
            have hs56 := GK.out.size
            clear X5 O5 B5 GK IK
            go_wp2_with fail
            refine E6.out.mono ?_
            rintro e w7 ⟨rfl, hb7⟩
            have X7 := Lib.hid (X6.out.below hb7)
            have O7 := Lib.hid (own_below O6.out hb7)
            have B7 := Lib.hid (below_next B6.out hb7)
            have hs67 := hb7.size
            obtain ⟨bo, hboc⟩ := own_blk O7.out w7.heap.size
            have hAo : Ao = some ⟨bo, 0, none⟩ ∨ l.length = 0 := hboc.imp And.left And.left
            have I7 := Lib.hid (show Inc w.heap.size Ao l.length co w7 from ⟨l, O7.out⟩)
            clear E6 X6 O6 B6 hb7 O7
            go_wp2_with fail
            go_loopw [58] (fun si wr => ∃ k : Nat, si = .int .i64 k ∧ k ≤ l.length ∧ Hid (Inc w.heap.size Ao l.length co wr) ∧ Hid (w7.grownBy wr (some bo))) (fun si _ => l.length - (intOf si).toNat)
            case atStart => exact ⟨0, rfl, Nat.zero_le _, I7, World.grownBy.refl _ _⟩
            case round =>
              obtain ⟨k, rfl, hk, IK, GK⟩ := hrel
              clear I7
              by_cases hlt : k < l.length
              · obtain ⟨x, y, rfl, hw, hc, hf, hst⟩ := IK.out.step (ga := bo) hlt hAo
                have HST := Lib.hid hst
                clear hst
                go_wp2_with fail
                go_roundw
                case rel => exact ⟨k + 1, by go_num, by omega, HST.out, grown_set GK.out k _⟩
                case measure => simp [intOf]; omega
              · clear hk
                have hboN : (w.heap.size ≤ bo ∧ bo < w1.heap.size) ∨ bo = w7.heap.size := hboc.elim (fun h => .inl ⟨h.2.1, by have := HOB.out bo (by rw [h.1]; rfl); omega⟩) (fun h => .inr h.2)
                have X8 := Lib.hid (X7.out.grown GK.out (by omega) (by omega))
                have B8 := Lib.hid (B7.out.trans (grown_keep GK.out (by omega) B7.out.size))
                have AN := Lib.hid (fun W => ixat_nil 1 (by omega) (by omega) W)
                clear X7 B7 GK IK
                go_wp2_with fail
                refine (AN.out _).mono ?_
                rintro e w8' ⟨rfl, rfl⟩
                go_wp2_with fail
                refine (AL _).out.mono ?_
                rintro e w9 ⟨rfl, hb9⟩
                have X9 := Lib.hid (X8.out.below hb9)
                have B9 := Lib.hid (below_next B8.out hb9)
                have ALL := Lib.hid (all_any (.inr ⟨rfl, X9.out⟩) (by omega))
                clear X8 B8 hb9
                go_wp2_with fail
                refine ALL.out.mono ?_
                rintro e w10 ⟨vx, rfl, hx10, hb10⟩
                obtain ⟨Ax, cx, rfl⟩ := own_any hx10
                have B10 := Lib.hid (below_next B9.out hb10)
                have X10 := Lib.hid (SlAt.of_own encU_len hx10)
                have R10 := Lib.hid (RN.out w10 (HS0.out.below B10.out))
                clear ALL X9 B9 hb10 hx10 RN
                go_wp2_with fail
                refine R10.out.mono ?_
                rintro e w11 ⟨vr, rfl, hr11, hb11⟩
                obtain ⟨Ar, cr, rfl⟩ := own_any hr11
                have B11 := Lib.hid (below_next B10.out hb11)
                have E11 := Lib.hid (eq_call (c := cx) (d := cr) (by omega) (X10.out.below hb11) (SlAt.of_own encU_len hr11))
                clear R10 X10 B10 hb11 hr11
                go_wp2_with fail
                refine E11.out.mono ?_
                rintro e w12 ⟨rfl, hb12⟩
                have B12 := Lib.hid (below_next B11.out hb12)
                clear E11 B11 hb12
                go_wp2_with fail
                refine (ixlen_nil _).mono ?_
                rintro e w12' ⟨rfl, rfl⟩
                go_wp2_with fail
                refine (pos_nil 1 _).mono ?_
                rintro e w13 ⟨rfl, hb13⟩
                have B13 := Lib.hid (below_next B12.out hb13)
                clear B12 hb13
                go_wp2_with fail
                refine (ixremove_nil 1 _).mono ?_
                rintro e w14 ⟨rfl, hb14⟩
                have B14 := Lib.hid (below_next B13.out hb14)
                clear B13 hb14
                go_wp2_with fail
                refine (ixappend_nil 1 _).mono ?_
                rintro e w14' ⟨rfl, rfl⟩
                go_wp2_with fail
                refine (all_any (p := none) (g := 0) (r := 0) (l := []) (.inl ⟨rfl, rfl⟩) (Nat.zero_le _)).mono ?_
                rintro e w15 ⟨vn, rfl, hn15, hb15⟩
                obtain ⟨An, cn, rfl⟩ := own_any hn15
                have B15 := Lib.hid (below_next B14.out hb15)
                clear B14 hb15 hn15
                go_wp2_with fail
                refine (between_any (p := none) (g := 0) (r := 0) (l := []) 0 9 (.inl ⟨rfl, rfl⟩) (.inl rfl) (Nat.zero_le _) List.Pairwise.nil).mono ?_
                rintro e w16 ⟨vm, rfl, hn16, hb16⟩
                obtain ⟨Am, cm, rfl⟩ := own_any hn16
                have B16 := Lib.hid (below_next B15.out hb16)
                clear B15 hb16 hn16
                go_wp2_with fail
                go_ret
                exact ⟨rfl, B16.out⟩
  · have hg : (100 : Int) < (l.length : Int) := by omega
    clear hS hb
    go_enter Try.func7, Try.ntmps7
    go_wp2_with fail
    refine (AL _).out.mono ?_
    rintro e w3 ⟨rfl, hb3⟩
    have hb3 := Lib.hid hb3
    go_wp2_with fail
    go_ret
    exact ⟨rfl, hb3.out⟩
end Go.Proofs.Ytkehlknnonppjaa
