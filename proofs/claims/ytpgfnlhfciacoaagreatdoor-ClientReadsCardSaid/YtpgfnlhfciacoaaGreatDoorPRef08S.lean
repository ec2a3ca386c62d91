import Derived.Test.YtpgfnlhfciacoaaGreatDoorPHe
import Derived.Test.YtpgfnlhfciacoaaGreatDoorPKb
set_option maxRecDepth 100000
set_option maxHeartbeats 2000000
open Go.Lib renaming hid → Hi
namespace Go.Proofs.YtpgfnlhfciacoaaGreatDoor
open Go.RowKit
noncomputable def ZM : Array Oper := ((Tryz.f20.body).bind (dfind 6)).getD #[]
theorem xs_size : ZM.size = 10 := by kernel_rfl
theorem xs_o0 : ∃ o, ZM[0]? = some o ∧ o.guard = none ∧ o.op = .move (.tmp 0) := ⟨_, by rfl, by rfl, by rfl⟩
theorem xs_o1 : ∃ o, ZM[1]? = some o ∧ o.guard = none ∧ o.op = .move (.tmp 5) := ⟨_, by rfl, by rfl, by rfl⟩
theorem xs_o2 : ∃ o, ZM[2]? = some o ∧ o.guard = none ∧ o.op = .indexAddr 33 (.tmp 17) (.tmp 18) := ⟨_, by rfl, by rfl, by rfl⟩
theorem xs_o3 : ∃ o, ZM[3]? = some o ∧ o.guard = none ∧ o.op = .load 26 (.tmp 19) := ⟨_, by rfl, by rfl, by rfl⟩
theorem xs_o4 : ∃ o, ZM[4]? = some o ∧ o.guard = none ∧ o.op = .move (.tmp 1) := ⟨_, by rfl, by rfl, by rfl⟩
theorem xs_o5 : ∃ o, ZM[5]? = some o ∧ o.guard = none ∧ o.op = .move (.tmp 5) := ⟨_, by rfl, by rfl, by rfl⟩
theorem xs_o6 : ∃ o, ZM[6]? = some o ∧ o.guard = none ∧ o.op = .indexAddr 33 (.tmp 21) (.tmp 22) := ⟨_, by rfl, by rfl, by rfl⟩
theorem xs_o7 : ∃ o, ZM[7]? = some o ∧ o.guard = none ∧ o.op = .load 26 (.tmp 23) := ⟨_, by rfl, by rfl, by rfl⟩
theorem xs_o8 : ∃ o, ZM[8]? = some o ∧ o.guard = none ∧ o.op = .call { callee := .value (.func 23), args := #[(.tmp 20), (.tmp 24)], argTypes := #[26, 26] } := ⟨_, by rfl, by rfl, by rfl⟩
theorem xs_o9 : ∃ o, ZM[9]? = some o ∧ o.guard = none ∧ o.op = .unOp .not 4 (.tmp 25) := ⟨_, by rfl, by rfl, by rfl⟩
theorem xs_fit : dfits ZM (YW ZM) 27 = true := by kernel_rfl
def xsV (sa sb pa pb va vb : Value) (k : Int) (q : Bool) : Nat → Value
 | 0 => sa
 | 1 => .int .i64 k
 | 2 => pa
 | 3 => va
 | 4 => sb
 | 5 => .int .i64 k
 | 6 => pb
 | 7 => vb
 | 8 => .bool q
 | 9 => .bool (!q)
 | _ => undef
theorem xs_step (sa sb pa pb va vb : Value) (k : Int) (q : Bool) (T : Array Value) (hT0 : T.getD 0 undef = sa) (hT1 : T.getD 1 undef = sb) (hT5 : T.getD 5 undef = .int .i64 k) (S : World → Prop)
 (IA : ∀ W, (Instr.indexAt 33 sa (.int .i64 k)).run Tryz.prog W = .ok pa W) (IB : ∀ W, (Instr.indexAt 33 sb (.int .i64 k)).run Tryz.prog W = .ok pb W)
 (LA : ∀ W, S W → (Instr.loadAt 26 pa).run Tryz.prog W = .ok va W) (LB : ∀ W, S W → (Instr.loadAt 26 pb).run Tryz.prog W = .ok vb W)
 (SM : ∀ W, S W → Calls Tryz.prog 23 #[va, vb] W fun e w' => e = .returned (.bool q) ∧ S w') :
 ∀ i o, ZM[i]? = some o → ∀ (m : Nat → Bool) w', (∀ k ∈ dal (YW ZM) i, m k = true) → m i = false → S w' → DStep Tryz.prog o (dval ZM (YW ZM) (xsV sa sb pa pb va vb k q) T i) (xsV sa sb pa pb va vb k q) i S (fun _ _ => False) w' := by
 intro i o ho m w' _ _ hS
 have hi : i < 10 := by rw [← xs_size]; exact (Array.getElem?_eq_some_iff.1 ho).1
 rcases i with _ | _ | _ | _ | _ | _ | _ | _ | _ | _ | i
 · obtain ⟨o', ho', hg, hop⟩ := xs_o0
   obtain rfl := Option.some.inj (ho'.symm.trans ho)
   have r0 : dval ZM (YW ZM) (xsV sa sb pa pb va vb k q) T 0 (.tmp 0) = sa := (show _ = T.getD 0 undef by kernel_rfl).trans hT0
   exact ZA (by simp [dwant, hg]) (show (execOp _ _).run Tryz.prog w' = .ok (.value (sa)) w' by simp [execOp, hop, go_sem, r0]) hS
 · obtain ⟨o', ho', hg, hop⟩ := xs_o1
   obtain rfl := Option.some.inj (ho'.symm.trans ho)
   have r5 : dval ZM (YW ZM) (xsV sa sb pa pb va vb k q) T 1 (.tmp 5) = .int .i64 k := (show _ = T.getD 5 undef by kernel_rfl).trans hT5
   exact ZA (by simp [dwant, hg]) (show (execOp _ _).run Tryz.prog w' = .ok (.value (.int .i64 k)) w' by simp [execOp, hop, go_sem, r5]) hS
 · obtain ⟨o', ho', hg, hop⟩ := xs_o2
   obtain rfl := Option.some.inj (ho'.symm.trans ho)
   have r17 : dval ZM (YW ZM) (xsV sa sb pa pb va vb k q) T 2 (.tmp 17) = sa := by kernel_rfl
   have r18 : dval ZM (YW ZM) (xsV sa sb pa pb va vb k q) T 2 (.tmp 18) = .int .i64 k := by kernel_rfl
   exact ZA (by simp [dwant, hg]) (dexec_index hop (by rw [r17, r18]; exact IA _)) hS
 · obtain ⟨o', ho', hg, hop⟩ := xs_o3
   obtain rfl := Option.some.inj (ho'.symm.trans ho)
   have r19 : dval ZM (YW ZM) (xsV sa sb pa pb va vb k q) T 3 (.tmp 19) = pa := by kernel_rfl
   exact ZA (by simp [dwant, hg]) (dexec_load hop (by rw [r19]; exact LA _ hS)) hS
 · obtain ⟨o', ho', hg, hop⟩ := xs_o4
   obtain rfl := Option.some.inj (ho'.symm.trans ho)
   have r1 : dval ZM (YW ZM) (xsV sa sb pa pb va vb k q) T 4 (.tmp 1) = sb := (show _ = T.getD 1 undef by kernel_rfl).trans hT1
   exact ZA (by simp [dwant, hg]) (show (execOp _ _).run Tryz.prog w' = .ok (.value (sb)) w' by simp [execOp, hop, go_sem, r1]) hS
 · obtain ⟨o', ho', hg, hop⟩ := xs_o5
   obtain rfl := Option.some.inj (ho'.symm.trans ho)
   have r5 : dval ZM (YW ZM) (xsV sa sb pa pb va vb k q) T 5 (.tmp 5) = .int .i64 k := (show _ = T.getD 5 undef by kernel_rfl).trans hT5
   exact ZA (by simp [dwant, hg]) (show (execOp _ _).run Tryz.prog w' = .ok (.value (.int .i64 k)) w' by simp [execOp, hop, go_sem, r5]) hS
 · obtain ⟨o', ho', hg, hop⟩ := xs_o6
   obtain rfl := Option.some.inj (ho'.symm.trans ho)
   have r21 : dval ZM (YW ZM) (xsV sa sb pa pb va vb k q) T 6 (.tmp 21) = sb := by kernel_rfl
   have r22 : dval ZM (YW ZM) (xsV sa sb pa pb va vb k q) T 6 (.tmp 22) = .int .i64 k := by kernel_rfl
   exact ZA (by simp [dwant, hg]) (dexec_index hop (by rw [r21, r22]; exact IB _)) hS
 · obtain ⟨o', ho', hg, hop⟩ := xs_o7
   obtain rfl := Option.some.inj (ho'.symm.trans ho)
   have r23 : dval ZM (YW ZM) (xsV sa sb pa pb va vb k q) T 7 (.tmp 23) = pb := by kernel_rfl
   exact ZA (by simp [dwant, hg]) (dexec_load hop (by rw [r23]; exact LB _ hS)) hS
 · obtain ⟨o', ho', hg, hop⟩ := xs_o8
   obtain rfl := Option.some.inj (ho'.symm.trans ho)
   have r20 : dval ZM (YW ZM) (xsV sa sb pa pb va vb k q) T 8 (.tmp 20) = va := by kernel_rfl
   have r24 : dval ZM (YW ZM) (xsV sa sb pa pb va vb k q) T 8 (.tmp 24) = vb := by kernel_rfl
   exact dstep_enter (by simp [dwant, hg]) (dexec_call hop rfl (by simp [go_sem, r20, r24])) (SM _ hS)
 · obtain ⟨o', ho', hg, hop⟩ := xs_o9
   obtain rfl := Option.some.inj (ho'.symm.trans ho)
   have r25 : dval ZM (YW ZM) (xsV sa sb pa pb va vb k q) T 9 (.tmp 25) = .bool q := by kernel_rfl
   exact ZA (by simp [dwant, hg]) (show (execOp _ _).run Tryz.prog w' = .ok (.value (.bool (!q))) w' by simp [execOp, hop, go_sem, r25]) hS
 · omega
theorem xs_put (sa sb pa pb va vb : Value) (k : Int) (q : Bool) (T : Array Value) : dputN ZM (xsV sa sb pa pb va vb k q) T 10 = (((((((((T.setIfInBounds 17 (sa)).setIfInBounds 18 (.int .i64 k)).setIfInBounds 19 (pa)).setIfInBounds 20 (va)).setIfInBounds 21 (sb)).setIfInBounds 22 (.int .i64 k)).setIfInBounds 23 (pb)).setIfInBounds 24 (vb)).setIfInBounds 25 (.bool q)).setIfInBounds 26 (.bool (!q)) := by kernel_rfl
theorem loadX {W : World} {b o : Nat} {a0 a1 a2 a3 a4 a5 a6 a7 a8 : Value} (h0 : W.cell? ⟨b, o, none⟩ = some a0) (h1 : W.cell? ⟨b, o + 1, none⟩ = some a1) (h2 : W.cell? ⟨b, o + 2, none⟩ = some a2) (h3 : W.cell? ⟨b, o + 3, none⟩ = some a3) (h4 : W.cell? ⟨b, o + 4, none⟩ = some a4) (h5 : W.cell? ⟨b, o + 5, none⟩ = some a5) (h6 : W.cell? ⟨b, o + 6, none⟩ = some a6) (h7 : W.cell? ⟨b, o + 7, none⟩ = some a7) (h8 : W.cell? ⟨b, o + 8, none⟩ = some a8)
 (s0 : ∃ x, a0 = .string x) (s1 : ∃ x, a1 = .int .i64 x) (s2 : ∃ x, a2 = .string x) (s3 : ∃ A n k, a3 = .slice A n k) (s4 : ∃ x, a4 = .int .i64 x) (s5 : ∃ x, a5 = .int .i64 x) (s6 : ∃ x, a6 = .bool x) (s7 : ∃ x, a7 = .int .u8 x) (s8 : ∃ A n k, a8 = .slice A n k) :
 (Instr.loadAt 26 (.pointer (some ⟨b, o, none⟩))).run Tryz.prog W = .ok (.agg #[a0, a1, a2, a3, a4, a5, a6, a7, a8]) W := by
 obtain ⟨s, rfl⟩ := s0
 obtain ⟨s, rfl⟩ := s1
 obtain ⟨s, rfl⟩ := s2
 obtain ⟨_, _, _, rfl⟩ := s3
 obtain ⟨s, rfl⟩ := s4
 obtain ⟨s, rfl⟩ := s5
 obtain ⟨s, rfl⟩ := s6
 obtain ⟨s, rfl⟩ := s7
 obtain ⟨_, _, _, rfl⟩ := s8
 simp [go_sem, h0, h1, h2, h3, h4, h5, h6, h7, h8]
theorem XsAt.load {w : World} {A : Option Addr} {xs : List CX} (h : XsAt w A xs) {j : Nat} (hj : j < xs.length) {b off : Nat} (hA : A = some ⟨b, off, none⟩) :
 (Instr.loadAt 26 (.pointer (some ⟨b, off + j * 9, none⟩))).run Tryz.prog w = .ok (ciV xs[j].c xs[j].A1 xs[j].A2 xs[j].k1 xs[j].k2) w := by
 obtain ⟨b', off', hA', _, c0, c1, c2, c3, c4, c5, c6, c7, c8⟩ := h.at hj
 rw [hA] at hA'
 obtain ⟨rfl, rfl⟩ : b = b' ∧ off = off' := by injection hA' with h; injection h with h1 h2; exact ⟨h1, h2⟩
 exact loadX c0 c1 c2 c3 c4 c5 c6 c7 c8 ⟨_, rfl⟩ ⟨_, rfl⟩ ⟨_, rfl⟩ ⟨_, _, _, rfl⟩ ⟨_, rfl⟩ ⟨_, rfl⟩ ⟨_, rfl⟩ ⟨_, rfl⟩ ⟨_, _, _, rfl⟩
theorem index_cmd (b off n c k : Nat) (hk : k < n) (W : World) : (Instr.indexAt 33 (.slice (some ⟨b, off, none⟩) n c) (.int .i64 (k : Int))).run Tryz.prog W = .ok (.pointer (some ⟨b, off + k * 9, none⟩)) W := by
 have hk0 : (0 : Int) ≤ (k : Int) := by omega
 have hk1 : (k : Int) < (n : Int) := by omega
 go_simp
def sameXs (xs ys : List CX) : Bool := decide (xs.length = ys.length) && ((xs.zip ys).all fun p => sameC p.1.c p.2.c)
theorem zip_snocX {p : CX × CX → Bool} {xs ys : List CX} {k : Nat} (h : k < xs.length) (h2 : k < ys.length) (ha : ((xs.zip ys).take k).all p = true) (hk : p (xs[k], ys[k]) = true) : ((xs.zip ys).take (k + 1)).all p = true := by
 have hz : k < (xs.zip ys).length := by rw [List.length_zip]; omega
 rw [List.take_succ_eq_append_getElem hz, List.all_append, ha, List.all_cons, List.getElem_zip, hk]
 rfl
theorem rsameXs_any (xs ys : List CX) (A B : Option Addr) (c d n m : Nat) (hn : xs.length = n) (hm : ys.length = m) (hl : n ≤ 1000000000) (hl2 : m ≤ 1000000000) (hbx : ∀ x ∈ xs, x.c.set.length ≤ 1000000 ∧ x.c.data.length ≤ 1000000) (hby : ∀ x ∈ ys, x.c.set.length ≤ 1000000 ∧ x.c.data.length ≤ 1000000) (w : World) (hS : XsAt w A xs) (hS2 : XsAt w B ys) :
 Calls Tryz.prog 20 #[.slice A n c, .slice B m d] w fun e w' => e = .returned (.bool (sameXs xs ys)) ∧ Below w.heap.size w w' := by
 have HS := Hi hS
 have HS2 := Hi hS2
 have HN := Hi hn
 have HM := Hi hm
 have HX := Hi hbx
 have HY := Hi hby
 have HR := Hi (show sameXs xs ys = (decide (n = m) && ((xs.zip ys).all fun p => sameC p.1.c p.2.c)) by unfold sameXs; rw [hn, hm])
 clear hS hS2 hn hm hbx hby
 by_cases hnm : n = m
 rotate_left
 · have e1 : ((n : Int) != (m : Int)) = true := by simp; omega
   have e2 : ¬ (n : Int) = (m : Int) := by omega
   have HD := Hi (show decide (n = m) = false by simpa using hnm)
   clear hnm
   go_enter Tryz.func20, Tryz.ntmps20
   go_wp2_with fail
   go_ret
   exact ⟨YU (by rw [HR.out, HD.out]; rfl), Below.refl _ _⟩
 subst hnm
 go_enter Tryz.func20, Tryz.ntmps20
 go_wp2_with fail
 go_loopw [5] (fun i wr => ∃ k : Nat, k ≤ n ∧ i = .int .i64 (k : Int) ∧ Hid (((xs.zip ys).take k).all (fun p => sameC p.1.c p.2.c) = true) ∧ Hid (Below w.heap.size w wr)) (fun i _ => n - (intOf i).toNat)
 case atStart => exact ⟨0, Nat.zero_le _, rfl, Hi rfl, Hi (Below.refl _ _)⟩
 case round =>
  obtain ⟨k, hk, rfl, hA, hB⟩ := hrel
  by_cases hlt : k < n
  · have hlx : k < xs.length := by rw [HN.out]; exact hlt
    have hly : k < ys.length := by rw [HM.out]; exact hlt
    obtain ⟨b, off, rfl, -, -⟩ := (HS.out.below hB.out).at hlx
    obtain ⟨b2, off2, rfl, -, -⟩ := (HS2.out.below hB.out).at hly
    have hk0 : (0 : Int) ≤ (k : Int) := by omega
    have hk1 : (k : Int) < (n : Int) := by omega
    have SX := Hi (HS.out.below hB.out)
    have SY := Hi (HS2.out.below hB.out)
    have bx := HX.out _ (List.getElem_mem hlx)
    have bY := HY.out _ (List.getElem_mem hly)
    have SM := Hi (fun W (hW : Below wr.heap.size wr W) => rsame_any xs[k].c ys[k].c xs[k].A1 xs[k].A2 ys[k].A1 ys[k].A2 _ xs[k].k1 _ xs[k].k2 _ ys[k].k1 _ ys[k].k2 rfl rfl rfl rfl bx.1 bx.2 bY.1 bY.2 W ((SX.out.each _ (List.getElem_mem hlx)).1.below hW) (((SX.out.each _ (List.getElem_mem hlx)).2.below hW).mono hW.size) ((SY.out.each _ (List.getElem_mem hly)).1.below hW) (((SY.out.each _ (List.getElem_mem hly)).2.below hW).mono hW.size))
    have LA := Hi (fun W (hW : Below wr.heap.size wr W) => (SX.out.below hW).load hlx rfl)
    have LB := Hi (fun W (hW : Below wr.heap.size wr W) => (SY.out.below hW).load hly rfl)
    have HSN := Hi (fun h => zip_snocX (p := fun p => sameC p.1.c p.2.c) hlx hly hA.out h)
    have HNO := Hi (fun (h : sameC xs[k].c ys[k].c = false) => (show ((xs.zip ys).all fun p => sameC p.1.c p.2.c) = false by
     rw [List.all_eq_false]
     refine ⟨(xs[k], ys[k]), ?_, by simp [h]⟩
     have hz : k < (xs.zip ys).length := by rw [List.length_zip]; omega
     have := List.getElem_mem hz
     rwa [List.getElem_zip] at this))
    unfold ciV at LA LB
    generalize hq : sameC xs[k].c ys[k].c = q at *
    clear hq
    generalize Value.agg #[.string ⟨xs[k].c.tag.toArray⟩, .int .i64 xs[k].c.kind, .string ⟨xs[k].c.mbox.toArray⟩, .slice xs[k].A1 xs[k].c.set.length xs[k].k1, .int .i64 xs[k].c.items, .int .i64 xs[k].c.mode, .bool xs[k].c.silent, .int .u8 xs[k].c.flags, .slice xs[k].A2 xs[k].c.data.length xs[k].k2] = va at *
    generalize Value.agg #[.string ⟨ys[k].c.tag.toArray⟩, .int .i64 ys[k].c.kind, .string ⟨ys[k].c.mbox.toArray⟩, .slice ys[k].A1 ys[k].c.set.length ys[k].k1, .int .i64 ys[k].c.items, .int .i64 ys[k].c.mode, .bool ys[k].c.silent, .int .u8 ys[k].c.flags, .slice ys[k].A2 ys[k].c.data.length ys[k].k2] = vb at *
    have ST := fun T h0 h1 h5 => xs_step (.slice (some ⟨b, off, none⟩) n c) (.slice (some ⟨b2, off2, none⟩) n d) (.pointer (some ⟨b, off + k * 9, none⟩)) (.pointer (some ⟨b2, off2 + k * 9, none⟩)) va vb (k : Int) q T h0 h1 h5 (fun W => Below wr.heap.size wr W)
     (index_cmd b off n c k hlt) (index_cmd b2 off2 n d k hlt) LA.out LB.out (fun W h => (SM.out W h).mono fun e w' q => ⟨q.1, YA h q.2⟩)
    clear SM LA LB SX SY bx bY
    go_upto_region 6 with (fail)
    rename_i K hK
    refine drawn_region (ops := ZM) (anc := YW ZM) (V := xsV (.slice (some ⟨b, off, none⟩) n c) (.slice (some ⟨b2, off2, none⟩) n d) (.pointer (some ⟨b, off + k * 9, none⟩)) (.pointer (some ⟨b2, off2 + k * 9, none⟩)) va vb (k : Int) q) (S := fun _ W => Below wr.heap.size wr W) (R := fun _ _ => False) (by kernel_rfl) xs_fit (drewN_below7 wr 1) (ST _ rfl rfl rfl) (fun c a w' _ _ _ h => h.elim) (fun W h => ?_)
    rw [dfin_put xs_fit, xs_size, xs_put]
    have HB1 := Hi (YA hB.out h)
    clear ST h
    refine hK _ _ ?_
    simp only [List.setIfInBounds_toArray, List.set_cons_succ, List.set_cons_zero]
    cases q with
    | true =>
      have HS2 := Hi (HSN.out rfl)
      clear HSN HNO
      go_wp2_with fail
      go_roundw
      case rel => exact ⟨k + 1, by omega, by go_num, HS2, HB1⟩
      case measure => simp [intOf]; omega
    | false =>
      have HS2 := Hi (HNO.out rfl)
      clear HSN HNO
      go_wp2_with fail
      go_ret
      exact ⟨YU (by rw [HR.out, HS2.out]; simp), HB1.out⟩
  · obtain rfl : k = n := by omega
    have HAll := Hi (show ((xs.zip ys).all fun p => sameC p.1.c p.2.c) = true by
     have := hA.out
     rwa [List.take_of_length_le (by rw [List.length_zip, HN.out, HM.out]; omega)] at this)
    clear hA
    go_wp2_with fail
    go_ret
    exact ⟨YU (by rw [HR.out, HAll.out]; simp), hB.out⟩
end Go.Proofs.YtpgfnlhfciacoaaGreatDoor
