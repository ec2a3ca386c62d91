/- The law LockTwoPhase. -/
import Derived.Test.YtpfplniokjkcbaaTpB
import Derived.Deep.CutBlock
namespace Go.Proofs.Ytpfplniokjkcbaa
open Go.RowKit

/-- The lists gathered so far. -/
structure LB (B g bt bl i tot : Nat) (w0 W : World) : Prop where
  st : ∃ (Ao : Option Addr) (co : Nat) (vs : List VI) (ls : List (List Nat)), TPs B g bt bl co Ao vs ⟨List.replicate 12 (-1), ls, 0⟩ w0 W ∧ ls.length = i ∧ (∀ l ∈ ls, (l.Pairwise (· < ·) ∧ ∀ y ∈ l, y < 12) ∧ l.length ≤ 20) ∧ sumLen ls = tot
  bl_ : B ≤ bl
theorem sumLen_app (a : List (List Nat)) (l : List Nat) : sumLen (a ++ [l]) = sumLen a + l.length := by simp [sumLen]
theorem sumLen_le {ls : List (List Nat)} (h : ∀ l ∈ ls, l.length ≤ 20) : sumLen ls ≤ 20 * ls.length := by
  induction ls with
  | nil => simp [sumLen]
  | cons a ls ih =>
    have h1 := h a (by simp)
    have h2 := ih fun l hl => h l (List.mem_cons_of_mem _ hl)
    simp [sumLen] at h2 ⊢
    omega
section
variable {B g bt bl i tot n : Nat} {w0 W W' : World}
theorem LB.tot_le (h : LB B g bt bl i tot w0 W) : tot ≤ 20 * i := by
  obtain ⟨_, _, _, ls, _, h1, h2, h3⟩ := h.st
  rw [← h3, ← h1]
  exact sumLen_le fun l hl => (h2 l hl).2
theorem LB.below (h : LB B g bt bl i tot w0 W) (hb : Below W.heap.size W W') : LB B g bt bl i tot w0 W' := by
  obtain ⟨Ao, co, vs, ls, h1, h2⟩ := h.st
  exact ⟨⟨Ao, co, vs, ls, h1.below hb, h2⟩, h.bl_⟩
theorem LB.be (h : LB B g bt bl i tot w0 W) : Below B w0 W ∧ B ≤ W.heap.size := by
  obtain ⟨Ao, co, vs, ls, h1, _⟩ := h.st
  exact ⟨h1.be, h1.sz⟩
/-- The state in the turns. -/
structure TQ (B g bt bl co : Nat) (Ao : Option Addr) (n tot : Nat) (s : TP) (w0 W : World) : Prop where
  st : ∃ vs, vs.length = n ∧ TPs B g bt bl co Ao vs s w0 W
  inv : TInv n tot s
theorem LB.turns (h : LB B g bt bl n tot w0 W) : ∃ Ao co s, TQ B g bt bl co Ao n tot s w0 W := by
  obtain ⟨Ao, co, vs, ls, h1, h2, h3, h4⟩ := h.st
  have := TInv.start fun l hl => (h3 l hl).1
  rw [h2, h4] at this
  exact ⟨Ao, co, _, ⟨vs, by rw [← h1.len]; exact h2, h1⟩, this⟩
variable {co : Nat} {Ao : Option Addr} {s : TP}
theorem TQ.cells (h : TQ B g bt bl co Ao n tot s w0 W) : W.cell? ⟨bt, 0, none⟩ = some (.pointer (some ⟨g, 0, none⟩)) ∧ W.cell? ⟨bl, 0, none⟩ = some (.slice Ao n co) := by
  obtain ⟨vs, e, h1⟩ := h.st
  rw [← e]
  exact h1.cells
theorem TQ.be (h : TQ B g bt bl co Ao n tot s w0 W) : Below B w0 W ∧ B ≤ W.heap.size := by
  obtain ⟨vs, e, h1⟩ := h.st
  exact ⟨h1.be, h1.sz⟩
theorem TQ.below (h : TQ B g bt bl co Ao n tot s w0 W) (hb : Below W.heap.size W W') : TQ B g bt bl co Ao n tot s w0 W' := by
  obtain ⟨vs, e, h1⟩ := h.st
  exact ⟨⟨vs, e, h1.below hb⟩, h.inv⟩
theorem TQ.step (h : TQ B g bt bl co Ao n tot s w0 W) (i : Nat) (hi : i < n) (hn : n ≤ 10) (ht : tot ≤ 1000) :
    Calls Try.prog 29 #[.int .i64 (i : Int), .pointer (some ⟨bl, 0, none⟩), .pointer (some ⟨bt, 0, none⟩)] W fun e w' => e = .returned (.bool true) ∧ TQ B g bt bl co Ao n tot (tstep s i) w0 w' := by
  obtain ⟨vs, e, h1⟩ := h.st
  refine (tstep_any i hi hn ht h.inv W h1).mono ?_
  rintro e' w' ⟨rfl, vs', h2, h3⟩
  exact ⟨rfl, ⟨vs', h2.trans e, h3⟩, h.inv.step hi⟩
theorem TQ.free (h : TQ B g bt bl co Ao n tot s w0 W) : Calls Try.prog 22 #[.pointer (some ⟨g, 0, none⟩)] W fun e w' => e = .returned (.bool (freeL s.L)) ∧ TQ B g bt bl co Ao n tot s w0 w' := by
  obtain ⟨vs, e, h1⟩ := h.st
  obtain ⟨S, t, _⟩ := h1.tb
  exact (lkfree_any t).mono fun _ _ ⟨h2, h3⟩ => ⟨h2, h.below h3⟩
theorem TQ.count (h : TQ B g bt bl co Ao n tot s w0 W) (ht : tot ≤ 1000) : Calls Try.prog 24 #[.pointer (some ⟨g, 0, none⟩)] W fun e w' => e = .returned (.int .i64 (s.q : Int)) ∧ TQ B g bt bl co Ao n tot s w0 w' := by
  obtain ⟨vs, e, h1⟩ := h.st
  obtain ⟨S, t, _⟩ := h1.tb
  have := h.inv.cnt
  exact (lkcnt_any (by omega) t).mono fun _ _ ⟨h2, h3⟩ => ⟨h2, h.below h3⟩
/-- The start. -/
theorem LB.start {S : Nat → Prop} {w1 : World} (hB : B = w0.heap.size) (t : LkT g S (List.replicate 12 (-1)) 0 w1) (hs : ∀ k, S k → B ≤ k) (hb : Below B w0 w1) (W : World) (hW : W = (w1.alloc (.cells #[.pointer (some ⟨g, 0, none⟩)] 24)).alloc (.cells #[.slice none 0 0] 53)) :
    LB B g w1.heap.size (w1.heap.size + 1) 0 0 w0 W := by
  have b1 := below_al w1 (.cells #[.pointer (some ⟨g, 0, none⟩)] 24)
  have hh1 := heap_alloc_new w1 (.cells #[.pointer (some ⟨g, 0, none⟩)] 24)
  have z1 : (w1.alloc (.cells #[.pointer (some ⟨g, 0, none⟩)] 24)).heap.size = w1.heap.size + 1 := by simp
  generalize w1.alloc (.cells #[.pointer (some ⟨g, 0, none⟩)] 24) = wa at *
  have b2 := below_al wa (.cells #[.slice none 0 0] 53)
  have hh2 := heap_alloc_new wa (.cells #[.slice none 0 0] 53)
  rw [← hW] at b2 hh2
  rw [z1] at hh2
  have hsz := hb.size
  have b3 := below_next b1 b2
  have z3 := b3.size
  refine ⟨⟨none, 0, [], [], ⟨⟨S, (t.kept (KeptO.of_below (S := fun _ => False) b3) fun _ _ => id), hs, fun e => by have := t.lt _ e; omega, fun e => by have := t.lt _ e; omega, Out.none _, fun x hx => by cases hx⟩, (b2.block _ (by omega)).trans hh1, hh2, World.ownsRow_nil _ _ _ _, rfl, (fun i x l hx => by simp at hx), (fun x hx => by cases hx), (fun x hx => by cases hx), (fun x hx => by cases hx), ⟨by omega, fun b e => by cases e⟩, hb.trans (b3.mono (by omega)), by omega⟩, rfl, (fun l hl => by cases hl), rfl⟩, by omega⟩
end

set_option maxRecDepth 100000 in
set_option maxHeartbeats 4000000 in
theorem two_main (A1 : Option Addr) (c1 : Nat) (ls : List (List UInt8)) (hl : ls.length ≤ 10) (A2 : Option Addr) (c2 : Nat) (l : List UInt8) (hl2 : l.length ≤ 100) (w : World) (hS : PtK w A1 ls) (hS2 : ByAt w.heap.size w A2 c2 l) :
    Calls Try.prog 6 #[.slice A1 ls.length c1, .slice A2 l.length c2] w fun e w' => e = .returned (.bool true) ∧ Below w.heap.size w w' := by
  have h1 : ¬ (10 : Int) < (ls.length : Int) := by omega
  have h2 : ¬ (100 : Int) < (l.length : Int) := by omega
  have HS := Lib.hid hS
  have HS2 := Lib.hid hS2
  have AL := Lib.hid (fun W => alive14_any W)
  have N := Lib.hid (fun W => lknew_any 12 (by omega) W)
  clear hS hS2
  go_enter Try.func6, Try.ntmps6
  go_wp2_with fail
  refine (N.out _).mono ?_
  rintro e w1 ⟨g, S, rfl, t1, s1, hb1⟩
  have L0 := Lib.hid (fun W hW => LB.start (g := g) (w0 := w) rfl t1 s1 hb1 W hW)
  clear t1 s1 hb1 N
  go_wp2_with fail
  have L1 := Lib.hid (L0.out _ rfl)
  clear L0
  generalize (w1.alloc (.cells #[.pointer (some ⟨g, 0, none⟩)] 24)).alloc (.cells #[.slice none 0 0] 53) = w2 at *
  have hbl : w1.heap.size ≠ w1.heap.size + 1 := by omega
  generalize w1.heap.size + 1 = bl at *
  generalize w1.heap.size = bt at *
  go_loopw [31, 7] (fun i t wr => ∃ k tot : Nat, k ≤ ls.length ∧ i = .int .i64 k ∧ t = .int .i64 tot ∧ Hid (LB w.heap.size g bt bl k tot w wr)) (fun i _ _ => ls.length - (intOf i).toNat)
  case atStart => exact ⟨0, 0, Nat.zero_le _, rfl, rfl, L1⟩
  case round =>
    obtain ⟨k, tot, hk, rfl, rfl, HL⟩ := hrel
    clear L1
    by_cases hlt : k < ls.length
    · obtain ⟨b, off, Aj, cj, rfl, x0, hby, hlm⟩ := HS.out.at_ HL.out.be.1 hlt
      have hk0 : (0 : Int) ≤ (k : Int) := by omega
      have hk1 : (k : Int) < (ls.length : Int) := by omega
      have HY := Lib.hid hby
      have hcap := hby.le
      clear hby
      generalize hxl : ls[k] = xs at *
      clear hxl
      unfold maxLen at hlm
      obtain ⟨m, hm, hm20, hmx⟩ : ∃ m : Nat, m = min xs.length 20 ∧ m ≤ 20 ∧ m ≤ xs.length := ⟨_, rfl, by omega, by omega⟩
      have hmin : min ((xs.length : Nat) : Int) 20 = (m : Int) := by omega
      clear hm
      have hsl := fun W => slice_h Aj xs.length cj m (by omega) W
      have hse := fun x lo hi mx W => sliceAt_eq x lo hi mx W
      generalize wr = wo at *
      obtain ⟨i0, hi, hz0, hz1, hz2⟩ := info_parts infoI14b
      have hwr := HL.out.be.2
      go_wp2_with fail
      go_loopw [41, 10] (fun j v wr => ∃ jj : Nat, jj ≤ m ∧ j = .int .i64 jj ∧ ∃ ys : List Nat, Hid (ys.length = jj) ∧ Hid (∀ y ∈ ys, y < 12) ∧ Hid (wr.ownsRow wo.heap.size 3 1 v jj (flatL encI (asI ys))) ∧ Hid (Below wo.heap.size wo wr)) (fun j _ _ => m - (intOf j).toNat)
      case atStart => exact ⟨0, Nat.zero_le _, rfl, [], Lib.hid rfl, Lib.hid (fun y hy => by cases hy), Lib.hid (World.ownsRow_nil _ _ _ _), Lib.hid (Below.refl _ _)⟩
      case round =>
        obtain ⟨jj, hj, rfl, ys, HYL, HY12, HOW, HBI⟩ := hrel
        clear x0
        obtain ⟨A3, c3, rfl⟩ := own_any HOW.out
        by_cases hjt : jj < m
        · obtain ⟨b4, off4, rfl, _, _, x4⟩ := (HY.out.grow HBI.out).cell (j := jj) (by omega)
          have hj0 : (0 : Int) ≤ (jj : Int) := by omega
          have hj1 : (jj : Int) < (m : Int) := by omega
          have hx255 := (xs[jj]'(by omega)).toNat_lt
          generalize (xs[jj]'(by omega)).toNat = xv at *
          obtain ⟨z, hz, hz12⟩ : ∃ z : Nat, Int.tmod (xv : Int) 12 = (z : Int) ∧ z < 12 := ⟨xv % 12, by rw [Int.tmod_eq_emod_of_nonneg (by omega)]; omega, by omega⟩
          have HOWa := Lib.hid (HOW.out.alloc (.cells #[.int .i64 (z : Int)] 3))
          have HSl := Lib.hid (slAt_one wr (z : Int))
          have h63 : jj + [(z : Int)].length ≤ maxLen := by simp only [List.length_singleton, maxLen]; omega
          have h64 : (jj + [(z : Int)].length) * 8 ≤ 140737488355328 := by simp only [List.length_singleton]; omega
          have HBA := Lib.hid (below_next HBI.out (below_al wr (.cells #[.int .i64 (z : Int)] 3)))
          have hba := HBA.out.size
          go_wp2_with (at_builtin; refine wpList_append_sl _ rfl _ _ 26 rfl wo.heap.size 3 i0 _ 8 Try.underlying26 hi hz0 hz1 hz2 rfl (by decide) _ jj (flatL encI (asI ys)) rfl HOWa.out (some ⟨wr.heap.size, 0, none⟩) [(z : Int)] 1 rfl encI_len HSl.out (one_flatI _) h63 h64 hba ?_; intro v5 w5 hown5 hg5; obtain ⟨A5, c5, rfl⟩ := own_any hown5; have HO5 := Lib.hid hown5; have HB5 := Lib.hid (HBA.out.grown hg5 hba (fun kk hkk => (HOWa.out.lt kk hkk).1)); clear hown5 hg5 HOWa HSl HBA)
          go_roundw
          case rel => exact ⟨jj + 1, by omega, by go_num, ys ++ [z], Lib.hid (by rw [List.length_append, HYL.out]; rfl), Lib.hid (fun y hy => (List.mem_append.1 hy).elim (HY12.out y) fun e => by rw [List.mem_singleton.1 e]; exact hz12), Lib.hid (by rw [asI_app, flatL_append]; exact HO5.out), HB5⟩
          case measure => simp [intOf]; omega
        · obtain rfl : jj = m := by omega
          have HSO := Lib.hid (sort14 wo.heap.size A3 c3 jj ys HYL.out (by omega) wr HBI.out.size HOW.out)
          have HCO := Lib.hid (fun W hB h => comp14 wo.heap.size A3 c3 jj ys HYL.out (by omega) HY12.out W hB h)
          clear HOW
          go_wp2_with fail
          refine HSO.out.mono ?_
          rintro e w6 ⟨rfl, h6, hb6⟩
          have HB6 := Lib.hid (HBI.out.trans hb6)
          have HC6 := Lib.hid (HCO.out w6 HB6.out.size h6)
          clear h6 hb6 HSO HCO HBI
          go_wp2_with fail
          refine HC6.out.mono ?_
          rintro e w7 ⟨A7, c7, zs, rfl, h7, hb7, hz7, hz20⟩
          have HB7 := Lib.hid (HB6.out.trans hb7)
          have HO7 := Lib.hid h7
          have HZ7 := Lib.hid hz7
          clear h7 hb7 hz7 HC6 HB6
          obtain ⟨j0, ki, kz0, kz1, kz2⟩ := info_parts infoV
          obtain ⟨⟨Ao, co, vs, lz, t7, t8, t9, t10⟩, hbl2⟩ := HL.out
          have T7 := Lib.hid t7
          have hvl : vs.length = k := by rw [← t8]; exact t7.len.symm
          have T8 := Lib.hid t8
          have T9 := Lib.hid t9
          have T10 := Lib.hid t10
          have BL2 := Lib.hid hbl2
          have q0 := (t7.below HB7.out).cells.2
          have q1 : (w7.alloc (.cells #[.slice A7 zs.length c7] 26)).cell? ⟨bl, 0, none⟩ = some (.slice Ao vs.length co) := ((t7.below HB7.out).below (below_al w7 _)).cells.2
          have HR7 := Lib.hid (((t7.below HB7.out).below (below_al w7 (.cells #[.slice A7 zs.length c7] 26))).row)
          have HSV := Lib.hid (slAt_v w7 ⟨A7, zs.length, c7⟩)
          have HTot := Lib.hid (HL.out.tot_le)
          have g63 : vs.length + [(⟨A7, zs.length, c7⟩ : VI)].length ≤ maxLen := by simp only [List.length_singleton, maxLen]; omega
          have g64 : (vs.length + [(⟨A7, zs.length, c7⟩ : VI)].length) * 24 ≤ 140737488355328 := by simp only [List.length_singleton]; omega
          have hsz7 : w.heap.size ≤ (w7.alloc (.cells #[.slice A7 zs.length c7] 26)).heap.size := by have := HB7.out.size; simp; omega
          clear t7 t8 t9 t10 hbl2 HL hvl
          have HP := Lib.hid (fun v' W2 h1 h2 h3 => T7.out.push (v' := v') (W2 := W2) BL2.out (Nat.le_refl _) HB7.out (x := ⟨A7, zs.length, c7⟩) (l := zs) rfl HO7.out h1 h2 h3)
          generalize hvn : vs.length = vn at *
          have HVN := Lib.hid hvn
          clear hvn
          generalize hzn : zs.length = zn at *
          have HZN := Lib.hid hzn
          clear hzn
          go_wp2_with (at_builtin; refine wpList_append_slg _ rfl _ _ 53 rfl w.heap.size 26 j0 _ 24 Try.underlying53 ki kz0 kz1 kz2 rfl (by decide) _ vn (flatL encV vs) rfl HR7.out ⟨w7.heap.size, 0, none⟩ [⟨A7, zn, c7⟩] 1 1 rfl rfl encV_len HSV.out (one_flatV _) g63 g64 hsz7 ?_; intro v8 w8 hown8 hg8 hf8; obtain ⟨e0, e1, Ao8, co8, e2, T8'⟩ := HP.out v8 w8 hown8 hg8 hf8; subst e2; have TT := Lib.hid T8'; clear hown8 hg8 hf8 T8' HP HR7 HSV)
          go_roundw
          case rel =>
            have hTot := HTot.out
            refine ⟨k + 1, tot + zn, by omega, by go_num, by rw [IntWalk.wrap64_in _ (by omega)]; rfl, Lib.hid ⟨⟨Ao8, co8, vs ++ [⟨A7, zn, c7⟩], lz ++ [zs], ?_, by rw [List.length_append, T8.out]; rfl, fun x hx => (List.mem_append.1 hx).elim (T9.out x) fun e => by rw [List.mem_singleton.1 e]; exact ⟨HZ7.out, by rw [HZN.out]; exact hz20⟩, by rw [sumLen_app, T10.out, HZN.out]⟩, BL2.out⟩⟩
            have := TT.out
            rw [List.length_append] at this
            exact this
          case measure => simp [intOf]; omega
    · obtain rfl : k = ls.length := by omega
      have hTot := HL.out.tot_le
      obtain ⟨Ao, co, s0, hQ⟩ := HL.out.turns
      have HQ := Lib.hid hQ
      have ht200 : tot ≤ 200 := by omega
      clear HL hQ HS hlt hk hTot
      generalize ls.length = n at *
      go_wp2_with fail
      go_loopw [68] (fun i wr => ∃ k : Nat, k ≤ l.length ∧ i = .int .i64 k ∧ ∃ s, Hid (TQ w.heap.size g bt bl co Ao n tot s w wr)) (fun i _ => l.length - (intOf i).toNat)
      case atStart => exact ⟨0, Nat.zero_le _, rfl, s0, HQ⟩
      case round =>
        obtain ⟨k, hk, rfl, s, HQ1⟩ := hrel
        clear HQ
        obtain ⟨x0, x1⟩ := HQ1.out.cells
        by_cases hlt : k < l.length
        · obtain ⟨b, off, rfl, _, _, x2⟩ := (HS2.out.below HQ1.out.be.1).cell hlt
          have hk0 : (0 : Int) ≤ (k : Int) := by omega
          have hk1 : (k : Int) < (l.length : Int) := by omega
          have hx255 := l[k].toNat_lt
          generalize l[k].toNat = xv at *
          by_cases hn0 : n = 0
          · subst hn0
            go_wp2_with fail
            go_roundw
            case rel => exact ⟨k + 1, by omega, by go_num, s, HQ1⟩
            case measure => simp [intOf]; omega
          · have hn1 : (0 : Int) < (n : Int) := by omega
            have hmod : Int.tmod (xv : Int) (n : Int) = ((xv % n : Nat) : Int) := by rw [Int.tmod_eq_emod_of_nonneg (by omega)]; rfl
            have hlm : xv % n < n := Nat.mod_lt _ (by omega)
            have ST := Lib.hid (HQ1.out.step (xv % n) hlm hl (by omega))
            generalize xv % n = z at *
            go_wp2_with fail
            refine ST.out.mono ?_
            rintro e w5 ⟨rfl, h5⟩
            have H5 := Lib.hid h5
            clear h5 ST HQ1 x0 x1
            go_wp2_with fail
            go_roundw
            case rel => exact ⟨k + 1, by omega, by go_num, _, H5⟩
            case measure => simp [intOf]; omega
        · obtain rfl : k = l.length := by omega
          have hple := HQ1.out.inv.phi_le
          have HP0 := Lib.hid (show phi s ≤ tot + n - 0 by omega)
          have hw1 : wrap64 ((tot : Int) + (n : Int)) = (tot : Int) + (n : Int) := IntWalk.wrap64_in _ (by omega)
          have hw2 : wrap64 ((tot : Int) + (n : Int) + 1) = (tot : Int) + (n : Int) + 1 := IntWalk.wrap64_in _ (by omega)
          clear hlt hk hple
          go_wp2_with fail
          go_loopw [91] (fun i wr => ∃ k : Nat, k ≤ tot + n + 1 ∧ i = .int .i64 k ∧ ∃ s, Hid (TQ w.heap.size g bt bl co Ao n tot s w wr) ∧ Hid (phi s ≤ tot + n - k)) (fun i _ => tot + n + 1 - (intOf i).toNat)
          case atStart => exact ⟨0, Nat.zero_le _, rfl, s, HQ1, HP0⟩
          case round =>
            obtain ⟨k, hk, rfl, s1, HQ2, HP2⟩ := hrel
            clear HQ1 HP0 x0 x1 hw1 hw2
            obtain ⟨x0, x1⟩ := HQ2.out.cells
            have hk0 : (0 : Int) ≤ (k : Int) := by omega
            by_cases hlt : k < tot + n + 1
            · have hk1 : (k : Int) < (tot : Int) + (n : Int) + 1 := by omega
              generalize wr = wo at *
              go_wp2_with fail
              go_loopw [95] (fun i wr => ∃ j : Nat, j ≤ n ∧ i = .int .i64 j ∧ Hid (TQ w.heap.size g bt bl co Ao n tot ((List.range j).foldl tstep s1) w wr)) (fun i _ => n - (intOf i).toNat)
              case atStart => exact ⟨0, Nat.zero_le _, rfl, HQ2⟩
              case round =>
                obtain ⟨j, hj, rfl, HQ3⟩ := hrel
                clear x0 x1
                obtain ⟨x0, x1⟩ := HQ3.out.cells
                have hj0 : (0 : Int) ≤ (j : Int) := by omega
                by_cases hjt : j < n
                · have hj1 : (j : Int) < (n : Int) := by omega
                  have ST := Lib.hid (HQ3.out.step j hjt hl (by omega))
                  have HE := Lib.hid (show tstep ((List.range j).foldl tstep s1) j = (List.range (j + 1)).foldl tstep s1 by rw [List.range_succ, List.foldl_append]; rfl)
                  go_wp2_with fail
                  refine ST.out.mono ?_
                  rintro e w5 ⟨rfl, h5⟩
                  rw [HE.out] at h5
                  have H5 := Lib.hid h5
                  clear h5 ST HQ3 x0 x1
                  go_wp2_with fail
                  go_roundw
                  case rel => exact ⟨j + 1, by omega, by go_num, H5⟩
                  case measure => simp [intOf]; omega
                · obtain rfl : j = n := by omega
                  have HR := Lib.hid (show phi ((List.range j).foldl tstep s1) ≤ tot + j - (k + 1) by have := HQ2.out.inv.round; have := HP2.out; omega)
                  clear HP2 HQ2 x0 x1
                  go_wp2_with fail
                  go_roundw
                  case rel => exact ⟨k + 1, by omega, by go_num, _, HQ3, HR⟩
                  case measure => simp [intOf]; omega
            · obtain rfl : k = tot + n + 1 := by omega
              have hk1 : ¬ ((tot + n + 1 : Nat) : Int) < (tot : Int) + (n : Int) + 1 := by omega
              obtain ⟨hf, hqc⟩ := HQ2.out.inv.done (by have := HP2.out; omega)
              have HFr := Lib.hid (fun W (h : TQ w.heap.size g bt bl co Ao n tot s1 w W) => h.free)
              have HCn := Lib.hid (fun W (h : TQ w.heap.size g bt bl co Ao n tot s1 w W) => h.count (by omega))
              rw [hf] at HFr
              rw [hqc] at HCn
              clear hf hqc HP2
              go_wp2_with fail
              refine (AL.out _).mono ?_
              rintro e w5 ⟨rfl, hb5⟩
              have HQ5 := Lib.hid (HQ2.out.below hb5)
              obtain ⟨y0, y1⟩ := HQ5.out.cells
              clear hb5 HQ2 x0 x1 AL
              go_wp2_with fail
              refine (HFr.out _ HQ5.out).mono ?_
              rintro e w6 ⟨rfl, h6⟩
              have HQ6 := Lib.hid h6
              obtain ⟨z0, z1⟩ := h6.cells
              clear h6 HQ5 y0 y1 HFr
              go_wp2_with fail
              refine (HCn.out _ HQ6.out).mono ?_
              rintro e w7 ⟨rfl, h7⟩
              have HB7 := Lib.hid h7.be.1
              clear h7 HQ6 z0 z1 HCn
              go_wp2_with fail
              go_ret
              exact ⟨by simp, HB7.out⟩
theorem lockTwoPhase_law (A1 : Option Addr) (c1 : Nat) (ls : List (List UInt8)) (hlm : ls.length ≤ maxLen) (A2 : Option Addr) (c2 : Nat) (l : List UInt8) (hlm2 : l.length ≤ maxLen) (w : World) (hS : PtK w A1 ls) (hS2 : ByAt w.heap.size w A2 c2 l) :
    Calls Try.prog 6 #[.slice A1 ls.length c1, .slice A2 l.length c2] w fun e w' => e = .returned (.bool true) ∧ Below w.heap.size w w' := by
  unfold maxLen at hlm hlm2
  have AL := Lib.hid (fun W => alive14_any W)
  by_cases h1 : ls.length ≤ 10
  · by_cases h2 : l.length ≤ 100
    · exact two_main A1 c1 ls h1 A2 c2 l h2 w hS hS2
    · have h1i : ¬ (10 : Int) < (ls.length : Int) := by omega
      have h2i : (100 : Int) < (l.length : Int) := by omega
      clear h1 h2 hS hS2
      generalize ls.length = n1 at *
      generalize l.length = n2 at *
      go_enter Try.func6, Try.ntmps6
      go_wp2_with fail
      refine (AL.out _).mono ?_
      rintro e w1 ⟨rfl, hb⟩
      go_wp2_with fail
      go_ret
      exact ⟨rfl, hb⟩
  · have h1i : (10 : Int) < (ls.length : Int) := by omega
    clear h1 hS hS2
    generalize ls.length = n1 at *
    generalize l.length = n2 at *
    go_enter Try.func6, Try.ntmps6
    go_wp2_with fail
    refine (AL.out _).mono ?_
    rintro e w1 ⟨rfl, hb⟩
    go_wp2_with fail
    go_ret
    exact ⟨rfl, hb⟩
end Go.Proofs.Ytpfplniokjkcbaa
