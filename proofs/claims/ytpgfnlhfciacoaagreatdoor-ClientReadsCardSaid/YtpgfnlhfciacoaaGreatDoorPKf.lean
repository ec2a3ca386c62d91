import Derived.Test.YtpgfnlhfciacoaaGreatDoorPKe
import Derived.Test.YtpgfnlhfciacoaaGreatDoorPKd
import Derived.Test.YtpgfnlhfciacoaaGreatDoorPGi
set_option maxRecDepth 100000
set_option maxHeartbeats 4000000
open Go.Lib renaming hid → Hi
namespace Go.Proofs.YtpgfnlhfciacoaaGreatDoor
open Go.RowKit
section
open Go.Maps
noncomputable def ZT : Array Oper := ((Tryz.f46.body).bind (dfind 4)).getD #[]
theorem te_size : ZT.size = 8 := by kernel_rfl
theorem te_o0 : ∃ o, ZT[0]? = some o ∧ o.guard = none ∧ o.op = .call { callee := .value (.func 82), args := #[], argTypes := #[] } := ⟨_, by rfl, by rfl, by rfl⟩
theorem te_o1 : ∃ o, ZT[1]? = some o ∧ o.guard = none ∧ o.op = .fieldAddr 26 (.tmp 1) 1 := ⟨_, by rfl, by rfl, by rfl⟩
theorem te_o2 : ∃ o, ZT[2]? = some o ∧ o.guard = none ∧ o.op = .load 3 (.tmp 15) := ⟨_, by rfl, by rfl, by rfl⟩
theorem te_o3 : ∃ o, ZT[3]? = some o ∧ o.guard = none ∧ o.op = .lookup 125 (.tmp 14) (.tmp 16) false := ⟨_, by rfl, by rfl, by rfl⟩
theorem te_o4 : ∃ o, ZT[4]? = some o ∧ o.guard = none ∧ o.op = .field 124 (.tmp 17) 0 := ⟨_, by rfl, by rfl, by rfl⟩
theorem te_o5 : ∃ o, ZT[5]? = some o ∧ o.guard = none ∧ o.op = .load 26 (.tmp 1) := ⟨_, by rfl, by rfl, by rfl⟩
theorem te_o6 : ∃ o, ZT[6]? = some o ∧ o.guard = none ∧ o.op = .move (.tmp 4) := ⟨_, by rfl, by rfl, by rfl⟩
theorem te_o7 : ∃ o, ZT[7]? = some o ∧ o.guard = none ∧ o.op = .call { callee := .value (.tmp 18), args := #[.tmp 19, .tmp 20], argTypes := #[26, 121] } := ⟨_, by rfl, by rfl, by rfl⟩
theorem te_fit : dfits ZT (YW ZT) 24 = true := by kernel_rfl
theorem te_last : ∀ i, i < 7 → i ∈ dal (YW ZT) 7 := by
 have h : (List.range 7).all (fun i => (dal (YW ZT) 7).contains i) = true := by kernel_rfl
 intro i hi
 have := List.all_eq_true.1 h i (List.mem_range.2 hi)
 simpa using this
def putV (bb : Nat) : Value := .func (.func 80) #[] #[.pointer (some ⟨bb, 0, none⟩)]
def teV (N bx bb F : Nat) (kd : Int) (cv : Value) : Nat → Value
 | 0 => .map (some (N + 1))
 | 1 => .pointer (some ⟨bx, 1, none⟩)
 | 2 => .int .i64 kd
 | 3 => .agg #[.func (.func F) #[] #[]]
 | 4 => .func (.func F) #[] #[]
 | 5 => cv
 | 6 => putV bb
 | 7 => .tuple #[]
 | _ => undef
theorem te_put (N bx bb F : Nat) (kd : Int) (cv : Value) (T : Array Value) : dputN ZT (teV N bx bb F kd cv) T 8 = (((((((T.setIfInBounds 14 (.map (some (N + 1)))).setIfInBounds 15 (.pointer (some ⟨bx, 1, none⟩))).setIfInBounds 16 (.int .i64 kd)).setIfInBounds 17 (.agg #[.func (.func F) #[] #[]])).setIfInBounds 18 (.func (.func F) #[] #[])).setIfInBounds 19 cv).setIfInBounds 20 (putV bb)).setIfInBounds 21 (.tuple #[]) := by kernel_rfl
structure TS (B bb bx g N : Nat) (cs : Array Value) (l r : List UInt8) (w0 : World) (m : Nat → Bool) (W : World) : Prop where
 bel : Below B w0 W
 n0 : m 0 = false → W.heap.size = N
 mp : m 0 = true → m 7 = false → W.ownsMap Tryz.prog 3 wrElem (N + 1) 8 wrD
 rs : m 7 = false → RS B bb bx g cs l W
 dn : m 7 = true → ∃ g', PutB B bb g' (l ++ r) W
section
variable {B bb bx g N : Nat} {cs : Array Value} {l r : List UInt8} {w0 W : World} {m : Nat → Bool}
theorem TS.keep (h : TS B bb bx g N cs l r w0 m W) {i : Nat} (h0 : i ≠ 0) (h7 : i ≠ 7) : TS B bb bx g N cs l r w0 (dset m i) W := by
 have e0 : dset m i 0 = m 0 := by unfold dset; rw [if_neg (Ne.symm h0)]
 have e7 : dset m i 7 = m 7 := by unfold dset; rw [if_neg (Ne.symm h7)]
 obtain ⟨a, b, c, d, e⟩ := h
 exact ⟨a, by rw [e0]; exact b, by rw [e0, e7]; exact c, by rw [e7]; exact d, by rw [e7]; exact e⟩
end
theorem dexec_lookup {P : Program} {o : Oper} {ρ : Operand → Value} {t : TypeId} {x y : Operand} {b : Bool} {v : Value} {w : World} (h : o.op = .lookup t x y b) (hr : (Instr.lookup t (ρ x) (ρ y) b).run P w = .ok v w) : (execOp ρ o).run P w = .ok (.value v) w := by
 unfold execOp
 rw [h]
 simp [hr, Result.andThen]
theorem dexec_callv {P : Program} {o : Oper} {ρ : Operand → Value} {c : Operand} {f : FuncId} {xs : Array Operand} {ts : Array TypeId} {args : Array Value} {w : World} (h : o.op = .call { callee := .value c, args := xs, argTypes := ts }) (hf : ρ c = .func (.func f) #[] #[]) (hr : (callFunc f (xs.map ρ)).run P w = .ok (.enter f args) w) : (execOp ρ o).run P w = .ok (.enter f args) w := by
 simp [execOp, h, hf, go_sem, hr]
theorem field_wr (F : Nat) (w : World) : (Instr.field 124 (.agg #[.func (.func F) #[] #[]]) 0).run Tryz.prog w = .ok (.func (.func F) #[] #[]) w := by kernel_rfl
theorem te_step (B bb bx g N F k : Nat) (cs : Array Value) (l r : List UInt8) (w0 : World) (T : Array Value) (hT1 : T.getD 1 undef = .pointer (some ⟨bx, 0, none⟩)) (hT4 : T.getD 4 undef = putV bb) (hF : F = wrF k) (hk : 1 ≤ k ∧ k ≤ 8)
 (L1 : ∀ W, RS B bb bx g cs l W → (Instr.loadAt 3 (.pointer (some ⟨bx, 1, none⟩))).run Tryz.prog W = .ok (.int .i64 (k : Int)) W)
 (L9 : ∀ W, RS B bb bx g cs l W → (Instr.loadAt 26 (.pointer (some ⟨bx, 0, none⟩))).run Tryz.prog W = .ok (.agg cs) W)
 (hE : ∀ args W, (callFunc F args).run Tryz.prog W = .ok (.enter F args) W)
 (RC : ∀ W, Below B w0 W → RS B bb bx g cs l W → Calls Tryz.prog F #[.agg cs, putV bb] W (WrPost B bb (l ++ r) W)) :
 ∀ i o, ZT[i]? = some o → ∀ m w', (∀ j, m j = true → ∀ k ∈ dal (YW ZT) j, m k = true) → (∀ k ∈ dal (YW ZT) i, m k = true) → m i = false → TS B bb bx g N cs l r w0 m w' →
  DStep Tryz.prog o (dval ZT (YW ZT) (teV N bx bb F k (.agg cs)) T i) (teV N bx bb F k (.agg cs)) i (TS B bb bx g N cs l r w0 (dset m i)) (fun _ _ => False) w' := by
 intro i o ho m w' hcl hal hmi hS
 have hi : i < 8 := by rw [← te_size]; exact (Array.getElem?_eq_some_iff.1 ho).1
 have h7 : m 7 = false := by
  by_cases e : i = 7
  · rw [← e]; exact hmi
  · cases h : m 7 with
    | false => rfl
    | true => exact absurd (hcl 7 h i (te_last i (by omega))) (by rw [hmi]; decide)
 rcases i with _ | _ | _ | _ | _ | _ | _ | _ | i
 · obtain ⟨o', ho', hg, hop⟩ := te_o0
   obtain rfl := Option.some.inj (ho'.symm.trans ho)
   refine dstep_enter (by simp [dwant, hg]) (dexec_call hop rfl (by simp [go_sem])) ((writers_any w').mono fun e w2 ⟨he, hm, hb⟩ => ?_)
   have hz := hS.n0 hmi
   rw [hz] at he hm
   refine ⟨he, hS.bel.trans (hb.mono (hS.rs h7).put.hw), fun h => ?_, fun _ _ => hm, fun _ => (hS.rs h7).below hb, fun h => ?_⟩
   · simp [dset] at h
   · simp [dset, h7] at h
 · obtain ⟨o', ho', hg, hop⟩ := te_o1
   obtain rfl := Option.some.inj (ho'.symm.trans ho)
   have r1 : dval ZT (YW ZT) (teV N bx bb F k (.agg cs)) T 1 (.tmp 1) = .pointer (some ⟨bx, 0, none⟩) := (show _ = T.getD 1 undef by kernel_rfl).trans hT1
   exact ZA (by simp [dwant, hg]) (show (execOp _ _).run Tryz.prog w' = .ok (.value (.pointer (some ⟨bx, 1, none⟩))) w' by simp [execOp, hop, go_sem, r1]) (hS.keep (by decide) (by decide))
 · obtain ⟨o', ho', hg, hop⟩ := te_o2
   obtain rfl := Option.some.inj (ho'.symm.trans ho)
   have r15 : dval ZT (YW ZT) (teV N bx bb F k (.agg cs)) T 2 (.tmp 15) = .pointer (some ⟨bx, 1, none⟩) := by kernel_rfl
   exact ZA (by simp [dwant, hg]) (dexec_load hop (by rw [r15]; exact L1 _ (hS.rs h7))) (hS.keep (by decide) (by decide))
 · obtain ⟨o', ho', hg, hop⟩ := te_o3
   obtain rfl := Option.some.inj (ho'.symm.trans ho)
   have r14 : dval ZT (YW ZT) (teV N bx bb F k (.agg cs)) T 3 (.tmp 14) = .map (some (N + 1)) := by kernel_rfl
   have r16 : dval ZT (YW ZT) (teV N bx bb F k (.agg cs)) T 3 (.tmp 16) = .int .i64 (k : Int) := by kernel_rfl
   have h0 : m 0 = true := hal 0 (by have h : (dal (YW ZT) 3).contains 0 = true := by kernel_rfl
                                     simpa using h)
   exact ZA (by simp [dwant, hg]) (dexec_lookup hop (by rw [r14, r16]; subst hF; exact look_wr (hS.mp h0 h7) k hk.1 hk.2)) (hS.keep (by decide) (by decide))
 · obtain ⟨o', ho', hg, hop⟩ := te_o4
   obtain rfl := Option.some.inj (ho'.symm.trans ho)
   have r17 : dval ZT (YW ZT) (teV N bx bb F k (.agg cs)) T 4 (.tmp 17) = .agg #[.func (.func F) #[] #[]] := by kernel_rfl
   exact ZA (by simp [dwant, hg]) (show (execOp _ _).run Tryz.prog w' = .ok (.value (.func (.func F) #[] #[])) w' by simp [execOp, hop, r17, field_wr, Result.andThen]) (hS.keep (by decide) (by decide))
 · obtain ⟨o', ho', hg, hop⟩ := te_o5
   obtain rfl := Option.some.inj (ho'.symm.trans ho)
   have r1 : dval ZT (YW ZT) (teV N bx bb F k (.agg cs)) T 5 (.tmp 1) = .pointer (some ⟨bx, 0, none⟩) := (show _ = T.getD 1 undef by kernel_rfl).trans hT1
   exact ZA (by simp [dwant, hg]) (dexec_load hop (by rw [r1]; exact L9 _ (hS.rs h7))) (hS.keep (by decide) (by decide))
 · obtain ⟨o', ho', hg, hop⟩ := te_o6
   obtain rfl := Option.some.inj (ho'.symm.trans ho)
   have r4 : dval ZT (YW ZT) (teV N bx bb F k (.agg cs)) T 6 (.tmp 4) = putV bb := (show _ = T.getD 4 undef by kernel_rfl).trans hT4
   exact ZA (by simp [dwant, hg]) (show (execOp _ _).run Tryz.prog w' = .ok (.value (putV bb)) w' by simp [execOp, hop, go_sem, r4]) (hS.keep (by decide) (by decide))
 · obtain ⟨o', ho', hg, hop⟩ := te_o7
   obtain rfl := Option.some.inj (ho'.symm.trans ho)
   have r18 : dval ZT (YW ZT) (teV N bx bb F k (.agg cs)) T 7 (.tmp 18) = .func (.func F) #[] #[] := by kernel_rfl
   have r19 : dval ZT (YW ZT) (teV N bx bb F k (.agg cs)) T 7 (.tmp 19) = .agg cs := by kernel_rfl
   have r20 : dval ZT (YW ZT) (teV N bx bb F k (.agg cs)) T 7 (.tmp 20) = putV bb := by kernel_rfl
   refine dstep_enter (by simp [dwant, hg]) (dexec_callv hop r18 (hE _ _)) ?_
   rw [show (#[Operand.tmp 19, Operand.tmp 20].map (dval ZT (YW ZT) (teV N bx bb F k (.agg cs)) T 7)) = #[.agg cs, putV bb] by simp [r19, r20]]
   refine (RC w' hS.bel (hS.rs h7)).mono fun e w2 ⟨he, hp, hb⟩ => ⟨he, hS.bel.trans hb, fun h => ?_, fun _ h => ?_, fun h => ?_, fun _ => hp⟩
   · have h0 : m 0 = true := hal 0 (te_last 0 (by decide))
     simp [dset, h0] at h
   · simp [dset] at h
   · simp [dset] at h
 · omega
theorem rest_any (B bb g : Nat) (l : List UInt8) (A1 A2 : Option Addr) (k1 k2 : Nat) (w : World) (tag mbox data : List UInt8) (set : List R) (k items mode flags : Nat) (silent : Bool) (hk : 1 ≤ k ∧ k ≤ 8) (hf : flags ≤ 31) (hi : items ≤ 31) (hm : mode ≤ 2) (hb : ∀ r ∈ set, r.1 ≤ 4294967295 ∧ r.2 ≤ 4294967295)
 (hl : l.length ≤ 1000000) (l3 : mbox.length ≤ 100000) (l1 : set.length ≤ 10000) (l2 : data.length ≤ 100000) (hp : PutB B bb g l w) (he : EnvB B w) (s1 : SlAt encR 2 w A1 set) (s2 : ByAt B w A2 k2 data) :
 Calls Tryz.prog (wrF k) #[ciV ⟨tag, k, mbox, set, items, mode, silent, flags, data⟩ A1 A2 k1 k2, putV bb] w (WrPost B bb (l ++ restT ⟨tag, k, mbox, set, items, mode, silent, flags, data⟩) w) := by
 have hc : k = 1 ∨ k = 2 ∨ k = 3 ∨ k = 4 ∨ k = 5 ∨ k = 6 ∨ k = 7 ∨ k = 8 := by omega
 rcases hc with rfl | rfl | rfl | rfl | rfl | rfl | rfl | rfl
 · exact (wbare_any B bb g l w _ hp).mono fun e w' h => by simpa [restT] using h
 · exact (wbare_any B bb g l w _ hp).mono fun e w' h => by simpa [restT] using h
 · exact (wbare_any B bb g l w _ hp).mono fun e w' h => by simpa [restT] using h
 · exact (wbare_any B bb g l w _ hp).mono fun e w' h => by simpa [restT] using h
 · exact wselect_any B bb g l A1 A2 k1 k2 w _ hl l3 hp he
 · have h := wappend_any B bb g l A1 A2 k1 k2 w tag mbox data set (6 : Nat) items mode flags silent hl l3 l2 hf hp he s2
   have e : restT ⟨tag, (6 : Nat), mbox, set, items, mode, silent, flags, data⟩ = (32 :: mboxT mbox) ++ ((if 0 < flags then 32 :: listL flags else []) ++ 32 :: YS data) := by
    simp [restT]
   rw [e]
   exact h
 · exact wfetch_any B bb g l A1 A2 k1 k2 w tag mbox data set (7 : Nat) mode flags items silent hl l1 hb hi hp he s1
 · exact wstore_any B bb g l A1 A2 k1 k2 w tag mbox data set (8 : Nat) items mode flags silent hl l1 hb hm hf hp he s1
theorem wrF_enter (k : Nat) (h : 1 ≤ k ∧ k ≤ 8) (args : Array Value) (W : World) : (callFunc (wrF k) args).run Tryz.prog W = .ok (.enter (wrF k) args) W := by
 have e1 : (callFunc 122 args).run Tryz.prog W = .ok (.enter 122 args) W := by go_simp
 have e5 : (callFunc 123 args).run Tryz.prog W = .ok (.enter 123 args) W := by go_simp
 have e6 : (callFunc 124 args).run Tryz.prog W = .ok (.enter 124 args) W := by go_simp
 have e7 : (callFunc 125 args).run Tryz.prog W = .ok (.enter 125 args) W := by go_simp
 have e8 : (callFunc 126 args).run Tryz.prog W = .ok (.enter 126 args) W := by go_simp
 have hc : k = 1 ∨ k = 2 ∨ k = 3 ∨ k = 4 ∨ k = 5 ∨ k = 6 ∨ k = 7 ∨ k = 8 := by omega
 rcases hc with rfl | rfl | rfl | rfl | rfl | rfl | rfl | rfl
 · exact e1
 · exact e1
 · exact e1
 · exact e1
 · exact e5
 · exact e6
 · exact e7
 · exact e8
def CtPost (T : List UInt8) (w : World) (e : Ending) (w' : World) : Prop := ∃ A c, e = .returned (.slice A (T ++ [13, 10]).length c) ∧ ByAt w'.heap.size w' A c (T ++ [13, 10]) ∧ Below w.heap.size w w'
theorem ctext_any (tag mbox data : List UInt8) (set : List R) (k items mode flags : Nat) (silent : Bool) (A1 A2 : Option Addr) (k1 k2 : Nat) (hk : 1 ≤ k ∧ k ≤ 8) (hf : flags ≤ 31) (hi : items ≤ 31) (hm : mode ≤ 2) (hb : ∀ r ∈ set, r.1 ≤ 4294967295 ∧ r.2 ≤ 4294967295)
 (l0 : tag.length ≤ 100000) (l3 : mbox.length ≤ 100000) (l1 : set.length ≤ 10000) (l2 : data.length ≤ 100000) (w : World) (he : EnvB w.heap.size w) (s1 : SlAt encR 2 w A1 set) (s2 : ByAt w.heap.size w A2 k2 data) :
 Calls Tryz.prog 46 #[ciV ⟨tag, k, mbox, set, items, mode, silent, flags, data⟩ A1 A2 k1 k2] w (CtPost (textT ⟨tag, k, mbox, set, items, mode, silent, flags, data⟩) w) := by
 obtain ⟨cs, hcs⟩ : ∃ cs : Array Value, cs = #[.string ⟨tag.toArray⟩, .int .i64 (k : Int), .string ⟨mbox.toArray⟩, .slice A1 set.length k1, .int .i64 (items : Int), .int .i64 (mode : Int), .bool silent, .int .u8 (flags : Int), .slice A2 data.length k2] := ⟨_, rfl⟩
 have hX := YD w (.cells cs 26)
 have hB2 := YB w (.cells cs 26)
 have hZ2 := World.size_alloc w (.cells cs 26)
 rw [hcs] at hX hB2 hZ2
 have HL : Hid ((textT ⟨tag, (k : Int), mbox, set, items, mode, silent, flags, data⟩).length ≤ 900000) := Hi (textT_len (a := ⟨tag, (k : Int), mbox, set, items, mode, silent, flags, data⟩) (by simp) (by simp; omega) (by simp) (by simp; omega) hb l0 l3 l1 l2)
 have HTX := Hi (show textT ⟨tag, (k : Int), mbox, set, items, mode, silent, flags, data⟩ = (tag ++ 32 :: verbZ (k : Int)) ++ restT ⟨tag, (k : Int), mbox, set, items, mode, silent, flags, data⟩ from rfl)
 have RC := Hi (fun bb g l (hl : List.length l ≤ 1000000) W (hW : Below w.heap.size w W) (h1 : PutB w.heap.size bb g l W) (h2 : EnvB w.heap.size W) => rest_any w.heap.size bb g l A1 A2 k1 k2 W tag mbox data set k items mode flags silent hk hf hi hm hb hl l3 l1 l2 h1 h2 (s1.below hW) (s2.below hW))
 have HE := Hi he
 have VB := Hi (fun W => verb_any (k : Int) (by omega) (by omega) W)
 have VL := Hi (verbZ_len (k : Int))
 have HK := Hi hk
 have HL0 := Hi l0
 clear s1 s2 l0 l1 l2 l3 hb hi hm hf he hk
 generalize textT ⟨tag, (k : Int), mbox, set, items, mode, silent, flags, data⟩ = TX at *
 generalize restT ⟨tag, (k : Int), mbox, set, items, mode, silent, flags, data⟩ = RX at *
 unfold ciV at *
 go_enter Tryz.func46, Tryz.ntmps46
 go_upto_region 1 with (fail)
 generalize w.alloc (.cells #[.string ⟨tag.toArray⟩, .int .i64 (k : Int), .string ⟨mbox.toArray⟩, .slice A1 set.length k1, .int .i64 (items : Int), .int .i64 (mode : Int), .bool silent, .int .u8 (flags : Int), .slice A2 data.length k2] 26) = W2 at *
 have HX := Hi hX
 have HB2 := Hi hB2
 have HZ2 := Hi hZ2
 clear hX hB2 hZ2
 obtain ⟨x0, x1, x2, x3, x4, x5, x6, x7, x8⟩ := ZS HX.out
 obtain ⟨cap, wc, hcv, hbc, _, hcc, hzc, hrc⟩ := convB W2 ⟨tag.toArray⟩ tag.length (bsz tag)
 have HBC := Hi hbc
 have HRC := Hi hrc
 have HCC := Hi hcc
 have HZC := Hi hzc
 clear hbc hrc hcc hzc
 go_upto_region 3 with (fail)
 have hal := YB wc (.cells #[.slice (some ⟨W2.heap.size, 0, none⟩) tag.length cap] 24)
 have hnew := YD wc (.cells #[.slice (some ⟨W2.heap.size, 0, none⟩) tag.length cap] 24)
 have hT0 := TbR.of_str ⟨tag.toArray⟩ cap (by rw [bsz]; exact HCC.out) HRC.out
 have hT4 := hT0.below hal
 have HB4 := Hi (HB2.out.trans ((HBC.out.trans (hal.mono HBC.out.size)).mono HB2.out.size))
 have HX4 := Hi ((hal.block w.heap.size (by have := HZC.out; have := HZ2.out; omega)).trans ((HBC.out.block w.heap.size (by have := HZ2.out; omega)).trans HX.out))
 have P4 : PutB w.heap.size wc.heap.size W2.heap.size tag (wc.alloc (.cells #[.slice (some ⟨W2.heap.size, 0, none⟩) tag.length cap] 24)) :=
  ⟨by have := HZC.out; have := HZ2.out; omega, by have := HZ2.out; omega, by have := HZC.out; omega, HB4.out.size, cap, hnew, hT4⟩
 have R4 := Hi (show RS w.heap.size wc.heap.size w.heap.size W2.heap.size #[.string ⟨tag.toArray⟩, .int .i64 (k : Int), .string ⟨mbox.toArray⟩, .slice A1 set.length k1, .int .i64 (items : Int), .int .i64 (mode : Int), .bool silent, .int .u8 (flags : Int), .slice A2 data.length k2] tag (wc.alloc (.cells #[.slice (some ⟨W2.heap.size, 0, none⟩) tag.length cap] 24)) from
  ⟨P4, by have := HZC.out; have := HZ2.out; omega, by have := HZ2.out; omega, HX4.out, HE.out.below HB4.out⟩)
 clear hal hnew hT0 hT4 P4 HX4 HX HB2 HZ2 HBC HRC HCC HZC x0 x1 x2 x3 x4 x5 x6 x7 x8 hcv
 generalize wc.alloc (.cells #[.slice (some ⟨W2.heap.size, 0, none⟩) tag.length cap] 24) = w4 at *
 generalize wc.heap.size = bb at *
 generalize W2.heap.size = g at *
 obtain ⟨x0, x1, x2, x3, x4, x5, x6, x7, x8⟩ := ZS R4.out.row
 have VB4 := Hi (VB.out w4)
 go_wp2_with fail
 refine VB4.out.mono ?_
 rintro e w5 ⟨rfl, hb5⟩
 have P5 := Hi (rs_put (verbZ (k : Int)) (by have := HL0.out; omega) (by have := VL.out; omega) (R4.out.below hb5))
 have HB5 := Hi (HB4.out.trans (hb5.mono R4.out.put.hw))
 clear hb5 x0 x1 x2 x3 x4 x5 x6 x7 x8 VB VB4 R4 HB4
 go_wp2_with fail
 refine P5.out.mono ?_
 rintro e w6 ⟨rfl, ⟨g6, h6⟩, hb6⟩
 have H6 := Hi h6
 have HB6 := Hi (HB5.out.trans hb6)
 clear h6 hb6 P5 HB5
 rw [← hcs] at H6
 go_upto_region 4 with (fail)
 rename_i K hK
 have HN6 := Hi (show (tag ++ 32 :: verbZ (k : Int)).length ≤ 1000000 by rw [List.length_append, List.length_cons]; have := HL0.out; have := VL.out; omega)
 have ST := fun T hT1 hT4 => te_step w.heap.size bb w.heap.size g6 w6.heap.size (wrF k) k cs (tag ++ 32 :: verbZ (k : Int)) RX w T hT1 hT4 rfl HK.out
  (fun W h => by have c1 := h.row; rw [hcs] at c1; have c2 := cell_of_row _ _ 1 _ _ _ c1; simp [go_sem, c2])
  (fun W h => by have c1 := h.row; rw [hcs] at c1 ⊢; exact load9 c1 ⟨_, rfl⟩ ⟨_, rfl⟩ ⟨_, rfl⟩ ⟨_, _, _, rfl⟩ ⟨_, rfl⟩ ⟨_, rfl⟩ ⟨_, rfl⟩ ⟨_, rfl⟩ ⟨_, _, _, rfl⟩)
  (wrF_enter k HK.out)
  (fun W hW h => by rw [hcs]; exact RC.out bb g6 _ HN6.out W hW h.put h.env)
 have h0 : TS w.heap.size bb w.heap.size g6 w6.heap.size cs (tag ++ 32 :: verbZ (k : Int)) RX w (fun _ => false) { w6 with drawn := w6.drawn + 1 } :=
  ⟨HB6.out.drew, (fun _ => rfl), (fun h => absurd h (by decide)), (fun _ => H6.out.below (drewN_below7 w6 1)), (fun h => absurd h (by decide))⟩
 refine drawn_region_cl (ops := ZT) (anc := YW ZT) (V := teV w6.heap.size w.heap.size bb (wrF k) k (.agg cs)) (S := fun m W => TS w.heap.size bb w.heap.size g6 w6.heap.size cs (tag ++ 32 :: verbZ (k : Int)) RX w m W) (R := fun _ _ => False) (by kernel_rfl) te_fit h0 (ST _ rfl rfl) (fun c a w' _ _ _ h => h.elim) (fun W h => ?_)
 rw [dfin_put te_fit, te_size, te_put]
 obtain ⟨g7, h7⟩ := h.dn (by rw [te_size]; rfl)
 have HB7 := Hi h.bel
 have H7 := Hi h7
 clear h ST h0 h7 H6 HB6 RC
 rw [← HTX.out] at H7
 obtain ⟨c7, hbox, hT7⟩ := H7.out.ex
 have HT7 := Hi hT7
 obtain ⟨n, hn⟩ : ∃ n, TX.length = n := ⟨_, rfl⟩
 have c0 : W.cell? ⟨bb, 0, none⟩ = some (.slice (some ⟨g7, 0, none⟩) n c7) := by rw [← hn]; exact cell_of_row W bb 0 _ _ _ hbox
 have S7 := Hi (src_str W ⟨#[13, 10]⟩)
 have HN := Hi hn
 have HH : Hid (n + 2 ≤ 1000000000) := Hi (by have := HL.out; omega)
 clear hbox hT7 hn
 refine hK _ _ ?_
 go_wp2_with (at_builtin; refine wpList_append_tb rfl _ _ 9 rfl g7 c7 n TX HT7.out HN.out rfl _ 2 [13, 10] rfl S7.out HH.out (n + 2) rfl ?_; intro g8 c8 w8 hT8 _ hg8)
 have hb8 : Below w.heap.size w w8 := HB7.out.grown hg8.out HB7.out.size (fun j hj => by injection hj with hj; have := H7.out.hg; omega)
 go_ret
 exact ⟨some ⟨g8, 0, none⟩, c8, by rw [List.length_append, HN.out]; rfl, hT8.out.by, hb8⟩
end
theorem EnvB.mono {B B' : Nat} {w : World} (h : EnvB B w) (hB : B ≤ B') : EnvB B' w := by
 obtain ⟨a, b, l1, l2, l3, l4⟩ := h
 exact ⟨a, b, by omega, by omega, by omega, by omega⟩
def CsPost (a : CI) (w : World) (e : Ending) (w' : World) : Prop :=
 (∃ j, (validC a = true ∧ Sent (textT a) j) ∧ ∃ A c Af cf, e = .returned (.tuple #[.slice A (textT a ++ [13, 10]).length c, .slice Af (j + 1) cf, .bool true]) ∧ ByAt w'.heap.size w' A c (textT a ++ [13, 10]) ∧ Below w.heap.size w w') ∨
 (¬ (validC a = true ∧ ∃ k, Sent (textT a) k) ∧ e = .returned (.tuple #[.slice none 0 0, .slice none 0 0, .bool false]) ∧ Below w.heap.size w w')
theorem csend_any (a : CI) (A1 A2 : Option Addr) (k1 k2 : Nat) (hf : 0 ≤ a.flags ∧ a.flags ≤ 255) (hb : ∀ r ∈ a.set, r.1 ≤ 4294967295 ∧ r.2 ≤ 4294967295)
 (l0 : a.tag.length ≤ 100000) (l3 : a.mbox.length ≤ 100000) (l1 : a.set.length ≤ 10000) (l2 : a.data.length ≤ 100000) (w : World) (he : EnvB w.heap.size w) (s1 : SlAt encR 2 w A1 a.set) (s2 : ByAt w.heap.size w A2 k2 a.data) :
 Calls Tryz.prog 26 #[ciV a A1 A2 k1 k2] w (CsPost a w) := by
 have HX := Hi (YD w (.cells #[.string ⟨a.tag.toArray⟩, .int .i64 a.kind, .string ⟨a.mbox.toArray⟩, .slice A1 a.set.length k1, .int .i64 a.items, .int .i64 a.mode, .bool a.silent, .int .u8 a.flags, .slice A2 a.data.length k2] 26))
 have HB := Hi (YB w (.cells #[.string ⟨a.tag.toArray⟩, .int .i64 a.kind, .string ⟨a.mbox.toArray⟩, .slice A1 a.set.length k1, .int .i64 a.items, .int .i64 a.mode, .bool a.silent, .int .u8 a.flags, .slice A2 a.data.length k2] 26))
 have HZ : Hid (_ = w.heap.size + 1) := Hi (World.size_alloc w (.cells #[.string ⟨a.tag.toArray⟩, .int .i64 a.kind, .string ⟨a.mbox.toArray⟩, .slice A1 a.set.length k1, .int .i64 a.items, .int .i64 a.mode, .bool a.silent, .int .u8 a.flags, .slice A2 a.data.length k2] 26))
 have VA := Hi (fun W (hW : Below w.heap.size w W) => valid_any a A1 A2 k1 k2 hf (by omega) (by omega) (by omega) (by omega) W (s1.below hW) ((s2.below hW).mono hW.size))
 have TX : Hid (validC a = true → ∀ W, Below w.heap.size w W → Calls Tryz.prog 46 #[ciV a A1 A2 k1 k2] W (CtPost (textT a) W)) := Hi (fun hv W hW => by
  obtain ⟨v1, v2, v3, v4, v5, v6⟩ := validC_int hv
  have v7 := (validC_bd hv).2.2
  obtain ⟨tag, kind, mbox, set, items, mode, silent, flags, data⟩ := a
  simp only at v1 v2 v3 v4 v5 v6 v7 hf hb l0 l1 l2 l3 s1 s2
  obtain ⟨kind, rfl⟩ := Int.eq_ofNat_of_zero_le (show 0 ≤ kind by omega)
  obtain ⟨items, rfl⟩ := Int.eq_ofNat_of_zero_le v3
  obtain ⟨mode, rfl⟩ := Int.eq_ofNat_of_zero_le v5
  obtain ⟨flags, rfl⟩ := Int.eq_ofNat_of_zero_le hf.1
  exact ctext_any tag mbox data set kind items mode flags silent A1 A2 k1 k2 ⟨by omega, by omega⟩ (by omega) (by omega) (by omega) hb l0 l3 l1 l2 W ((he.below hW).mono hW.size) (s1.below hW) ((s2.below hW).mono hW.size))
 have HL : Hid (validC a = true → (textT a).length ≤ 900000) := Hi (fun hv => by
  obtain ⟨v1, v2, v3, v4, v5, v6⟩ := validC_int hv
  exact textT_len hf.1 (validC_bd hv).2.2 v3 v4 hb l0 l3 l1 l2)
 have HE := Hi he
 clear s1 s2 hf hb l0 l1 l2 l3 he
 generalize hva : validC a = va at *
 have HVA := Hi hva
 clear hva
 unfold ciV at *
 go_enter Tryz.func26, Tryz.ntmps26
 go_upto_region 1 with (fail)
 generalize w.alloc (.cells #[.string ⟨a.tag.toArray⟩, .int .i64 a.kind, .string ⟨a.mbox.toArray⟩, .slice A1 a.set.length k1, .int .i64 a.items, .int .i64 a.mode, .bool a.silent, .int .u8 a.flags, .slice A2 a.data.length k2] 26) = W2 at *
 obtain ⟨x0, x1, x2, x3, x4, x5, x6, x7, x8⟩ := ZS HX.out
 go_wp2_with fail
 refine (VA.out _ HB.out).mono ?_
 rintro e w3 ⟨rfl, hb3⟩
 have HB3 := Hi (YA HB.out hb3)
 have HX3 := Hi ((hb3.block w.heap.size (by have := HZ.out; omega)).trans HX.out)
 clear x0 x1 x2 x3 x4 x5 x6 x7 x8 HX hb3 VA HB HZ
 cases va with
 | false =>
   go_wp2_with fail
   refine bodyPost_ret (v := .tuple #[.slice none 0 0, .slice none 0 0, .bool false]) (by simp [results, Tryz.results26, go_sem]) rfl ?_
   exact .inr ⟨(fun h => by have := h.1; rw [HVA.out] at this; exact absurd this (by decide)), rfl, HB3.out⟩
 | true =>
   have TX2 := Hi (TX.out rfl)
   have HL2 := Hi (HL.out rfl)
   clear TX HL
   obtain ⟨x0, x1, x2, x3, x4, x5, x6, x7, x8⟩ := ZS HX3.out
   obtain ⟨T, hT⟩ : ∃ T, textT a = T := ⟨_, rfl⟩
   have HT := Hi hT
   rw [hT] at TX2 HL2
   clear hT
   go_wp2_with fail
   refine (TX2.out _ HB3.out).mono ?_
   rintro e w4 ⟨A, c, rfl, hy, hb4⟩
   have HB4 := Hi (YA HB3.out hb4)
   have HY := Hi hy
   obtain ⟨m0, hm0⟩ : ∃ m0, T.length = m0 := ⟨_, rfl⟩
   have hn0 : (T ++ [13, 10]).length = m0 + 2 := by rw [List.length_append, hm0]; rfl
   have HM0 := Hi hm0
   have HN0 := Hi hn0
   have hm9 : m0 ≤ 900000 := by rw [← hm0]; exact HL2.out
   rw [hn0]
   have SP := Hi (split_any w4.heap.size c (m0 + 2) A (T ++ [13, 10]) hn0 (by omega) (short_crlf T) w4 ((HE.out.below HB4.out).mono HB4.out.size) hy)
   clear x0 x1 x2 x3 x4 x5 x6 x7 x8 hy hb4 hm0 hn0 HX3 TX2 HL2
   go_wp2_with fail
   refine SP.out.mono ?_
   rintro e w7 ⟨v, vs, fs, R, k, rfl, hO, hF, hb7, hrun, hdone⟩
   obtain ⟨Af, cf, rfl⟩ := YV hO
   have HFS := Hi (FsAt.of_own hO hF)
   have HB7 := Hi (YA HB4.out hb7)
   have HY7 := Hi ((HY.out.below hb7).mono hb7.size)
   have HRUN := Hi hrun
   have HDONE := Hi hdone
   have hpos := some_frame hrun hdone
   have hfl : fs.length ≤ 1000000 := by have := hrun.len.1; rw [HN0.out] at this; omega
   have hRl : R.length ≤ 1000000 := by have := hrun.len.2.1; rw [HN0.out] at this; omega
   have NO : Hid (∀ w', (¬ ∃ j, Sent T j) → Below w.heap.size w w' → CsPost a w (.returned (.tuple #[.slice none 0 0, .slice none 0 0, .bool false])) w') := Hi (fun w' hs hb => .inr ⟨(fun h => hs (by rw [← HT.out]; exact h.2)), rfl, hb⟩)
   obtain ⟨m1, hm1⟩ : ∃ m1, fs.length = m1 + 1 := ⟨fs.length - 1, by omega⟩
   have hj : m1 < fs.length := by omega
   obtain ⟨b, off, Ad, cd, rfl, hbb, c0, c1, cby⟩ := HFS.out.at hj
   have SI : Hid ((R.length = 0 ∧ fs[m1].kind = 1 ∧ fs[m1].data = T) ↔ Sent T m1) := Hi (by
    have h := sent_iff HRUN.out HDONE.out
    have hz : fs.length - 1 = m1 := by omega
    simp only [hz] at h
    rw [← h]
    exact ⟨fun ⟨h1, h2, h3⟩ => ⟨h1, by omega, h2, h3⟩, fun ⟨h1, _, h2, h3⟩ => ⟨h1, h2, h3⟩⟩)
   have SA : Hid (∀ j, Sent T j → j = m1) := Hi (fun j hj => by have := sent_any HRUN.out HDONE.out hj; omega)
   have hw4 : IntKind.i64.wrap (m1 : Int) = (m1 : Int) := IntWalk.i64_in _ (by omega)
   have hi0 : (0 : Int) ≤ (m1 : Int) := by omega
   have hi1 : (m1 : Int) < (m1 : Int) + 1 := by omega
   have CBY := Hi cby
   generalize fs[m1].kind = kd at *
   generalize fs[m1].data = dt at *
   rw [hm1]
   obtain ⟨dl, hdl⟩ : ∃ dl, dt.length = dl := ⟨_, rfl⟩
   have HDL := Hi hdl
   rw [hdl] at c1
   obtain ⟨rl, hrl⟩ : ∃ rl, R.length = rl := ⟨_, rfl⟩
   have HRL := Hi hrl
   rw [hrl] at hRl ⊢
   clear hO hF hb7 hrun hdone SP HY hpos hm1 hj HFS HRUN HDONE cby hdl hrl hfl
   go_upto_region 6 with (fail)
   rename_i K hK
   have hal := YB w7 (.cells #[.int .i64 (kd : Int), .slice Ad dl cd] 62)
   have hnew := YD w7 (.cells #[.int .i64 (kd : Int), .slice Ad dl cd] 62)
   have hz8 := World.size_alloc w7 (.cells #[.int .i64 (kd : Int), .slice Ad dl cd] 62)
   have HB8 := Hi (YA HB7.out hal)
   have HY8 := Hi ((HY7.out.below hal).mono hal.size)
   have HD8 := Hi ((CBY.out.below hal).mono hal.size)
   have HN8 := Hi hnew
   have HZ8 := Hi hz8
   clear hal hnew hz8 c0 c1 CBY HY7 HB7 HB4
   generalize w7.alloc (.cells #[.int .i64 (kd : Int), .slice Ad dl cd] 62) = w8 at *
   generalize hbf : w7.heap.size = bf at *
   obtain ⟨q, hq⟩ : ∃ q, (dt == T) = q := ⟨_, rfl⟩
   have HQ := Hi hq
   have ST := fun TT h8 h5 => se_step w8 bf (m0 + 2) c m0 dl cd A Ad q T dt TT h8 h5 HM0.out rfl (by omega) HDL.out hq (cell_of_row _ _ 1 _ _ _ HN8.out) (by have := HZ8.out; omega) HY8.out HD8.out
   have h0 : SS w8 (fun _ => false) { w8 with drawn := w8.drawn + 1 } := ⟨drewN_below7 w8 1, (fun _ => rfl), (fun h => absurd h (by decide)), (fun h => absurd h (by decide))⟩
   refine drawn_region_cl (ops := QD) (anc := YW QD) (V := seV w8.heap.size bf (m0 + 2) c m0 dl cd A Ad q) (S := fun m W => SS w8 m W) (R := fun _ _ => False) (by kernel_rfl) se_fit h0 (ST _ rfl rfl) (fun c a w' _ _ _ h => h.elim) (fun W h => ?_)
   rw [dfin_put se_fit, se_size, se_put]
   have HB9 := Hi (YA HB8.out h.bel)
   have HY9 := Hi ((HY8.out.below h.bel).mono h.bel.size)
   have HN9 := Hi ((h.bel.block bf (by have := HZ8.out; omega)).trans HN8.out)
   have c0 := cell_of_row _ _ 0 _ _ _ HN9.out
   clear ST h0 h HB8 HY8 HD8 HN8 HZ8 hbf
   refine hK _ _ ?_
   by_cases hk1 : kd = 1
   rotate_left
   · have HS := Hi (show ¬ ∃ j, Sent T j from fun ⟨j, hj⟩ => by
      obtain rfl := SA.out j hj
      exact hk1 (SI.out.2 hj).2.1)
     have e3 : ((kd : Int) != 1) = true := by simp; omega
     have e4 : ¬ (kd : Int) = 1 := by omega
     clear hk1
     go_wp2_with fail
     refine bodyPost_ret (v := .tuple #[.slice none 0 0, .slice none 0 0, .bool false]) (by simp [results, Tryz.results26, go_sem]) rfl ?_
     exact NO.out _ HS.out HB9.out
   · subst hk1
     cases q with
     | false =>
       have HS := Hi (show ¬ ∃ j, Sent T j from fun ⟨j, hj⟩ => by
        obtain rfl := SA.out j hj
        have h1 := (SI.out.2 hj).2.2
        have h2 := HQ.out
        rw [h1] at h2
        simp at h2)
       go_wp2_with fail
       refine bodyPost_ret (v := .tuple #[.slice none 0 0, .slice none 0 0, .bool false]) (by simp [results, Tryz.results26, go_sem]) rfl ?_
       exact NO.out _ HS.out HB9.out
     | true =>
       by_cases hr0 : 0 < rl
       · have HS := Hi (show ¬ ∃ j, Sent T j from fun ⟨j, hj⟩ => by
          obtain rfl := SA.out j hj
          have h1 := (SI.out.2 hj).1
          have h2 := HRL.out
          omega)
         have d1 : decide ((0 : Int) < (rl : Int)) = true := by simp; omega
         have d2 : decide (0 < rl) = true := by simpa using hr0
         clear hr0
         go_wp2_with fail
         refine bodyPost_ret (v := .tuple #[.slice none 0 0, .slice none 0 0, .bool false]) (by simp [results, Tryz.results26, go_sem]) rfl ?_
         exact NO.out _ HS.out HB9.out
       · have HS := Hi (SI.out.1 ⟨by have := HRL.out; omega, rfl, by have := HQ.out; simpa using this⟩)
         have d1 : decide ((0 : Int) < (rl : Int)) = false := decide_eq_false (by omega)
         have d2 : decide (0 < rl) = false := decide_eq_false hr0
         clear hr0
         go_wp2_with fail
         refine bodyPost_ret (v := .tuple #[.slice A (m0 + 2) c, .slice (some ⟨b, off, none⟩) (m1 + 1) cf, .bool true]) (by simp [results, Tryz.results26, go_sem]) rfl ?_
         refine .inl ⟨m1, ⟨HVA.out, by rw [HT.out]; exact HS.out⟩, A, c, some ⟨b, off, none⟩, cf, by rw [HT.out, HN0.out], by rw [HT.out]; exact HY9.out, HB9.out⟩
theorem cprint_any (a : CI) (A1 A2 : Option Addr) (k1 k2 : Nat) (hf : 0 ≤ a.flags ∧ a.flags ≤ 255) (hb : ∀ r ∈ a.set, r.1 ≤ 4294967295 ∧ r.2 ≤ 4294967295)
 (l0 : a.tag.length ≤ 100000) (l3 : a.mbox.length ≤ 100000) (l1 : a.set.length ≤ 10000) (l2 : a.data.length ≤ 100000) (w : World) (he : EnvB w.heap.size w) (s1 : SlAt encR 2 w A1 a.set) (s2 : ByAt w.heap.size w A2 k2 a.data) :
 Calls Tryz.prog 11 #[ciV a A1 A2 k1 k2] w (PrPost a w) := by
 have HX := Hi (YD w (.cells #[.string ⟨a.tag.toArray⟩, .int .i64 a.kind, .string ⟨a.mbox.toArray⟩, .slice A1 a.set.length k1, .int .i64 a.items, .int .i64 a.mode, .bool a.silent, .int .u8 a.flags, .slice A2 a.data.length k2] 26))
 have HB := Hi (YB w (.cells #[.string ⟨a.tag.toArray⟩, .int .i64 a.kind, .string ⟨a.mbox.toArray⟩, .slice A1 a.set.length k1, .int .i64 a.items, .int .i64 a.mode, .bool a.silent, .int .u8 a.flags, .slice A2 a.data.length k2] 26))
 have SE := Hi (fun W (hW : Below w.heap.size w W) => csend_any a A1 A2 k1 k2 hf hb l0 l3 l1 l2 W ((he.below hW).mono hW.size) (s1.below hW) ((s2.below hW).mono hW.size))
 clear s1 s2 hf hb l0 l1 l2 l3 he
 unfold ciV at *
 go_enter Tryz.func11, Tryz.ntmps11
 go_upto_region 1 with (fail)
 generalize w.alloc (.cells #[.string ⟨a.tag.toArray⟩, .int .i64 a.kind, .string ⟨a.mbox.toArray⟩, .slice A1 a.set.length k1, .int .i64 a.items, .int .i64 a.mode, .bool a.silent, .int .u8 a.flags, .slice A2 a.data.length k2] 26) = W2 at *
 obtain ⟨x0, x1, x2, x3, x4, x5, x6, x7, x8⟩ := ZS HX.out
 go_wp2_with fail
 refine (SE.out _ HB.out).mono ?_
 rintro e w3 (⟨j, ⟨hv, hs⟩, A, c, Af, cf, rfl, hy, hb3⟩ | ⟨hno, rfl, hb3⟩)
 · have HB3 := Hi (YA HB.out hb3)
   have HV := Hi hv
   have HS := Hi hs
   have HY := Hi hy
   clear x0 x1 x2 x3 x4 x5 x6 x7 x8 HX hb3 SE HB hv hs hy
   generalize hn : (textT a ++ [13, 10]).length = n at *
   have HN := Hi hn
   clear hn
   go_wp2_with fail
   go_ret2
   exact .inl ⟨⟨HV.out, j, HS.out⟩, A, c, by rw [HN.out]; rfl, HY.out, HB3.out⟩
 · have HB3 := Hi (YA HB.out hb3)
   have HN := Hi hno
   clear x0 x1 x2 x3 x4 x5 x6 x7 x8 HX hb3 SE HB hno
   go_wp2_with fail
   go_ret2
   exact .inr ⟨HN.out, rfl, HB3.out⟩
def exC : CI := ⟨[97], 7, [], [(1, 0)], 3, 0, false, 0, []⟩
def exT : List UInt8 := [97, 32, 70, 69, 84, 67, 72, 32, 49, 58, 42, 32, 40, 70, 76, 65, 71, 83, 32, 85, 73, 68, 41]
theorem ex_valid : validC exC = true := by kernel_rfl
theorem ex_text : textT exC = exT := by kernel_rfl
theorem ex_step : stepF (exT ++ [13, 10]) 0 = some (⟨1, exT⟩, [], 0) := by kernel_rfl
theorem ex_sent : Sent (textT exC) 0 := by
 rw [ex_text]
 exact ⟨[], .cons ex_step (.nil _ _), rfl⟩
theorem ex_set (w : World) : SlAt encR 2 (w.alloc (.cells #[.int .u32 1, .int .u32 0] 50)) (some ⟨w.heap.size, 0, none⟩) [(1, 0)] := by
 refine .inr ⟨w.heap.size, 0, rfl, by simp, fun j x hj i u hi => ?_⟩
 have hj0 : j = 0 := by
  have := (List.getElem?_eq_some_iff.1 hj).1
  simpa using this
 subst hj0
 obtain rfl : (1, 0) = x := by simpa using hj
 rw [cell_of_row _ _ _ _ _ _ (YD w _)]
 have hi2 : i = 0 ∨ i = 1 := by
  have := (List.getElem?_eq_some_iff.1 hi).1
  simp [encR] at this
  omega
 rcases hi2 with rfl | rfl
 · simpa [encR] using hi
 · simpa [encR] using hi
theorem alive8_any (w : World) (he : EnvB w.heap.size w) :
 Calls Tryz.prog 10 #[] w fun e w' => e = .returned (.bool true) ∧ Below w.heap.size w w' := by
 have hb := YB w (.cells #[.int .u32 1, .int .u32 0] 50)
 have P := cprint_any exC (some ⟨w.heap.size, 0, none⟩) none 1 0 (by decide) (by intro r hr; simp [exC] at hr; subst hr; decide) (by decide) (by decide) (by decide) (by decide) (w.alloc (.cells #[.int .u32 1, .int .u32 0] 50)) ((he.below hb).mono hb.size) (ex_set w) ⟨by decide, .inl rfl⟩
 have P := Hi P
 have HB := Hi hb
 clear hb he
 unfold ciV exC at P
 go_enter Tryz.func10, Tryz.ntmps10
 go_wp2_with fail
 refine P.out.mono ?_
 rintro e w1 (⟨_, A, c, rfl, hy, hb1⟩ | ⟨hno, _⟩)
 · have HB1 := Hi (YA HB.out hb1)
   have hT : textT ⟨[97], 7, [], [(1, 0)], 3, 0, false, 0, []⟩ = exT := ex_text
   rw [hT] at hy ⊢
   have cv := convS _ w1 A c 25 (exT ++ [13, 10]) hy rfl
   have hx : (exT ++ [13, 10]).length = 25 := rfl
   have hc : (ByteArray.mk (exT ++ [13, 10]).toArray) = ⟨#[97, 32, 70, 69, 84, 67, 72, 32, 49, 58, 42, 32, 40, 70, 76, 65, 71, 83, 32, 85, 73, 68, 41, 13, 10]⟩ := rfl
   rw [hc] at cv
   rw [hx]
   clear hy hb1 hT hx hc
   go_wp2_with fail
   go_ret
   exact ⟨rfl, HB1.out⟩
 · exact absurd ⟨ex_valid, 0, ex_sent⟩ hno
end Go.Proofs.YtpgfnlhfciacoaaGreatDoor
