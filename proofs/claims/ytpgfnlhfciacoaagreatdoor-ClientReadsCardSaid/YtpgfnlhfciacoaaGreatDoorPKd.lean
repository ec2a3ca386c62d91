import Derived.IntWalk
import Derived.Test.YtpgfnlhfciacoaaGreatDoorPKb
import Derived.Test.YtpgfnlhfciacoaaGreatDoorProg
import Derived.Lib.SlBytesConst
set_option maxRecDepth 100000
set_option maxHeartbeats 1000000
open Go.Lib renaming hid → Hi
namespace Go.Proofs.YtpgfnlhfciacoaaGreatDoor
open Go.RowKit
theorem equalS_any (B1 B2 : Nat) (A A2 : Option Addr) (c d n n2 : Nat) (l m : List UInt8) (hn : l.length = n) (hn2 : m.length = n2) (w : World) (h1 : ByAt B1 w A c l) (h2 : ByAt B2 w A2 d m) :
 Calls Tryz.prog 47 #[.slice A n c, .slice A2 n2 d] w fun e w' => e = .returned (.bool (l == m)) ∧ w = w' := by
 have k1 := convS B1 w A c n l h1 hn
 have k2 := convS B2 w A2 d n2 m h2 hn2
 cases hq : (l == m)
 all_goals
  have HQ := Hi hq
  clear h1 h2 hn hn2
  go_enter Tryz.func47, Tryz.ntmps47
  go_wp2_with fail
  go_ret
  exact ⟨by first | rfl | simp, rfl⟩
theorem hasSuf_any (B B2 : Nat) (A A2 : Option Addr) (c d n : Nat) (T : List UInt8) (hn : T.length + 2 = n) (hl : n ≤ 1000000000) (w : World) (h1 : ByAt B w A c (T ++ [13, 10])) (h2 : ByAt B2 w A2 d [13, 10]) :
 Calls Tryz.prog 83 #[.slice A n c, .slice A2 2 d] w fun e w' => e = .returned (.bool true) ∧ w = w' := by
 have hln : (T ++ [13, 10]).length = n := by simpa using hn
 have hd := h1.drop (lo := T.length) (by simp)
 have hE : List.drop T.length (T ++ [13, 10]) = ([13, 10] : List UInt8) := by simp
 rw [hE] at hd
 have EQ := Hi (equalS_any B B2 (offA A c T.length) A2 (c - T.length) d 2 2 [13, 10] [13, 10] rfl rfl w hd h2)
 rw [show (([13, 10] : List UInt8) == [13, 10]) = true from rfl] at EQ
 have hsl := fun W => slice_l A n c T.length (by omega) W
 have hse := fun x lo hi mx W => YY x lo hi mx W
 obtain ⟨m, hm⟩ : ∃ m, T.length = m := ⟨_, rfl⟩
 rw [hm] at hsl EQ hn
 have e1 : (n : Int) - 2 = (m : Int) := by omega
 have e2 : n - m = 2 := by omega
 rw [e2] at hsl
 have g1 : (2 : Int) ≤ (n : Int) := by omega
 have w1 : IntKind.i64.wrap (m : Int) = (m : Int) := IntWalk.i64_in _ (by omega)
 clear hn hln hd hE h1 h2 hl hm e2
 go_enter Tryz.func83, Tryz.ntmps83
 go_wp2_with fail
 refine EQ.out.mono ?_
 rintro e w' ⟨rfl, rfl⟩
 go_wp2_with fail
 go_ret
 exact ⟨rfl, rfl⟩
theorem trimSuf_any (B B2 : Nat) (A A2 : Option Addr) (c d n m : Nat) (T : List UInt8) (hm : T.length = m) (hn : m + 2 = n) (hl : n ≤ 1000000000) (w : World) (h1 : ByAt B w A c (T ++ [13, 10])) (h2 : ByAt B2 w A2 d [13, 10]) :
 Calls Tryz.prog 48 #[.slice A n c, .slice A2 2 d] w fun e w' => e = .returned (.slice A m c) ∧ w = w' := by
 have HS := Hi (hasSuf_any B B2 A A2 c d n T (by omega) hl w h1 h2)
 have hle := h1.le
 rw [List.length_append] at hle
 simp only [List.length_cons, List.length_nil] at hle
 have hsl := fun W => slice_h A n c m (by omega) W
 have hse := fun x lo hi mx W => YY x lo hi mx W
 have e1 : (n : Int) - 2 = (m : Int) := by omega
 have w1 : IntKind.i64.wrap (m : Int) = (m : Int) := IntWalk.i64_in _ (by omega)
 clear hn h1 h2 hl hm hle
 go_enter Tryz.func48, Tryz.ntmps48
 go_wp2_with fail
 refine HS.out.mono ?_
 rintro e w' ⟨rfl, rfl⟩
 go_wp2_with fail
 go_ret
 exact ⟨rfl, rfl⟩
noncomputable def QD : Array Oper := ((Tryz.f26.body).bind (dfind 6)).getD #[]
theorem se_size : QD.size = 8 := by kernel_rfl
theorem se_o0 : ∃ o, QD[0]? = some o ∧ o.guard = none ∧ o.op = .fieldAddr 62 (.tmp 8) 1 := ⟨_, by rfl, by rfl, by rfl⟩
theorem se_o1 : ∃ o, QD[1]? = some o ∧ o.guard = none ∧ o.op = .load 24 (.tmp 26) := ⟨_, by rfl, by rfl, by rfl⟩
theorem se_o2 : ∃ o, QD[2]? = some o ∧ o.guard = none ∧ o.op = .move (.tmp 5) := ⟨_, by rfl, by rfl, by rfl⟩
theorem se_o3 : ∃ o, QD[3]? = some o ∧ o.guard = none ∧ o.op = .buildSlice 24 2 #[(0, .const (.int .u8 13)), (1, .const (.int .u8 10))] := ⟨_, by rfl, by rfl, by rfl⟩
theorem se_o4 : ∃ o, QD[4]? = some o ∧ o.guard = none ∧ o.op = .convert 24 24 (.tmp 29) := ⟨_, by rfl, by rfl, by rfl⟩
theorem se_o5 : ∃ o, QD[5]? = some o ∧ o.guard = none ∧ o.op = .call { callee := .value (.func 48), args := #[.tmp 28, .tmp 30], argTypes := #[24, 24] } := ⟨_, by rfl, by rfl, by rfl⟩
theorem se_o6 : ∃ o, QD[6]? = some o ∧ o.guard = none ∧ o.op = .call { callee := .value (.func 47), args := #[.tmp 27, .tmp 31], argTypes := #[24, 24] } := ⟨_, by rfl, by rfl, by rfl⟩
theorem se_o7 : ∃ o, QD[7]? = some o ∧ o.guard = none ∧ o.op = .assign (.tmp 32) := ⟨_, by rfl, by rfl, by rfl⟩
theorem se_fit : dfits QD (YW QD) 46 = true := by kernel_rfl
def seV (N bf n c m0 dl cd : Nat) (A Ad : Option Addr) (q : Bool) : Nat → Value
 | 0 => .pointer (some ⟨bf, 1, none⟩)
 | 1 => .slice Ad dl cd
 | 2 => .slice A n c
 | 3 => .slice (some ⟨N, 0, none⟩) 2 2
 | 4 => .slice (some ⟨N, 0, none⟩) 2 2
 | 5 => .slice A m0 c
 | 6 => .bool q
 | 7 => .bool q
 | _ => undef
theorem se_put (N bf n c m0 dl cd : Nat) (A Ad : Option Addr) (q : Bool) (T : Array Value) : dputN QD (seV N bf n c m0 dl cd A Ad q) T 8 = (((((((T.setIfInBounds 26 (.pointer (some ⟨bf, 1, none⟩))).setIfInBounds 27 (.slice Ad dl cd)).setIfInBounds 28 (.slice A n c)).setIfInBounds 29 (.slice (some ⟨N, 0, none⟩) 2 2)).setIfInBounds 30 (.slice (some ⟨N, 0, none⟩) 2 2)).setIfInBounds 31 (.slice A m0 c)).setIfInBounds 32 (.bool q)).setIfInBounds 9 (.bool q) := by kernel_rfl
structure SS (w0 : World) (m : Nat → Bool) (W : World) : Prop where
 bel : Below w0.heap.size w0 W
 n0 : m 3 = false → W.heap.size = w0.heap.size
 md : m 3 = true → m 4 = false → ∃ W1, W = W1.alloc (.cells #[.int .u8 13, .int .u8 10] 5) ∧ W1.heap.size = w0.heap.size ∧ Below w0.heap.size w0 W1
 cr : m 4 = true → ByAt W.heap.size W (some ⟨w0.heap.size, 0, none⟩) 2 [13, 10]
theorem SS.keep {w0 W : World} {m : Nat → Bool} (h : SS w0 m W) {i : Nat} (h3 : i ≠ 3) (h4 : i ≠ 4) : SS w0 (dset m i) W := by
 have e : dset m i 3 = m 3 := by unfold dset; rw [if_neg (Ne.symm h3)]
 have e4 : dset m i 4 = m 4 := by unfold dset; rw [if_neg (Ne.symm h4)]
 obtain ⟨a, b, c, d⟩ := h
 exact ⟨a, by rw [e]; exact b, by rw [e, e4]; exact c, by rw [e4]; exact d⟩
theorem se_step (w0 : World) (bf n c m0 dl cd : Nat) (A Ad : Option Addr) (q : Bool) (Tx dt : List UInt8) (T : Array Value) (hT8 : T.getD 8 undef = .pointer (some ⟨bf, 0, none⟩)) (hT5 : T.getD 5 undef = .slice A n c)
 (hm : Tx.length = m0) (hn : m0 + 2 = n) (hl : n ≤ 1000000000) (hd : dt.length = dl) (hq : (dt == Tx) = q)
 (L1 : w0.cell? ⟨bf, 1, none⟩ = some (.slice Ad dl cd)) (hbf : bf < w0.heap.size) (b1 : ByAt w0.heap.size w0 A c (Tx ++ [13, 10])) (b2 : ByAt w0.heap.size w0 Ad cd dt) :
 ∀ i o, QD[i]? = some o → ∀ m w', (∀ j, m j = true → ∀ k ∈ dal (YW QD) j, m k = true) → (∀ k ∈ dal (YW QD) i, m k = true) → m i = false → SS w0 m w' →
  DStep Tryz.prog o (dval QD (YW QD) (seV w0.heap.size bf n c m0 dl cd A Ad q) T i) (seV w0.heap.size bf n c m0 dl cd A Ad q) i (SS w0 (dset m i)) (fun _ _ => False) w' := by
 intro i o ho m w' hcl hal hmi hS
 have hi : i < 8 := by rw [← se_size]; exact (Array.getElem?_eq_some_iff.1 ho).1
 rcases i with _ | _ | _ | _ | _ | _ | _ | _ | i
 · obtain ⟨o', ho', hg, hop⟩ := se_o0
   obtain rfl := Option.some.inj (ho'.symm.trans ho)
   have r8 : dval QD (YW QD) (seV w0.heap.size bf n c m0 dl cd A Ad q) T 0 (.tmp 8) = .pointer (some ⟨bf, 0, none⟩) := (show _ = T.getD 8 undef by kernel_rfl).trans hT8
   exact ZA (by simp [dwant, hg]) (show (execOp _ _).run Tryz.prog w' = .ok (.value (.pointer (some ⟨bf, 1, none⟩))) w' by simp [execOp, hop, go_sem, r8]) (hS.keep (by decide) (by decide))
 · obtain ⟨o', ho', hg, hop⟩ := se_o1
   obtain rfl := Option.some.inj (ho'.symm.trans ho)
   have r26 : dval QD (YW QD) (seV w0.heap.size bf n c m0 dl cd A Ad q) T 1 (.tmp 26) = .pointer (some ⟨bf, 1, none⟩) := by kernel_rfl
   have c1 : w'.cell? ⟨bf, 1, none⟩ = some (.slice Ad dl cd) := (hS.bel.cell (p := ⟨bf, 1, none⟩) hbf).trans L1
   exact ZA (by simp [dwant, hg]) (dexec_load hop (by rw [r26]; show _ = Result.ok (Value.slice Ad dl cd) w'; simp [go_sem, c1])) (hS.keep (by decide) (by decide))
 · obtain ⟨o', ho', hg, hop⟩ := se_o2
   obtain rfl := Option.some.inj (ho'.symm.trans ho)
   have r5 : dval QD (YW QD) (seV w0.heap.size bf n c m0 dl cd A Ad q) T 2 (.tmp 5) = .slice A n c := (show _ = T.getD 5 undef by kernel_rfl).trans hT5
   exact ZA (by simp [dwant, hg]) (show (execOp _ _).run Tryz.prog w' = .ok (.value (.slice A n c)) w' by simp [execOp, hop, go_sem, r5]) (hS.keep (by decide) (by decide))
 · obtain ⟨o', ho', hg, hop⟩ := se_o3
   obtain rfl := Option.some.inj (ho'.symm.trans ho)
   have hz := hS.n0 hmi
   have hb := YB w' (.cells #[.int .u8 13, .int .u8 10] 5)
   have h4 : m 4 = false := by
    cases h : m 4 with
    | false => rfl
    | true => exact absurd (hcl 4 h 3 (by have h : (dal (YW QD) 4).contains 3 = true := by kernel_rfl
                                          simpa using h)) (by rw [hmi]; decide)
   refine ZA (w' := w'.alloc (.cells #[.int .u8 13, .int .u8 10] 5)) (by simp [dwant, hg]) (show (execOp _ _).run Tryz.prog w' = .ok (.value (.slice (some ⟨w0.heap.size, 0, none⟩) 2 2)) _ by rw [← hz]; simp [execOp, hop, go_sem]) ⟨hS.bel.trans (hb.mono hS.bel.size), fun h => ?_, fun _ _ => ⟨w', rfl, hz, hS.bel⟩, fun h => ?_⟩
   · simp [dset] at h
   · simp [dset, h4] at h
 · obtain ⟨o', ho', hg, hop⟩ := se_o4
   obtain rfl := Option.some.inj (ho'.symm.trans ho)
   have r29 : dval QD (YW QD) (seV w0.heap.size bf n c m0 dl cd A Ad q) T 4 (.tmp 29) = .slice (some ⟨w0.heap.size, 0, none⟩) 2 2 := by kernel_rfl
   have h3 : m 3 = true := hal 3 (by have h : (dal (YW QD) 4).contains 3 = true := by kernel_rfl
                                     simpa using h)
   obtain ⟨W1, hW, hz, hb1⟩ := hS.md h3 hmi
   subst hW
   have hc := Lib.run_convert_bytes_const (P := Tryz.prog) W1 24 5 #[.int .u8 13, .int .u8 10] 2 2 Tryz.underlying24 Tryz.underlying5
   rw [hz] at hc
   have hb := YB W1 (.cells #[.int .u8 13, .int .u8 10] 5 (2, 3))
   have hn := YD W1 (.cells #[.int .u8 13, .int .u8 10] 5 (2, 3))
   rw [hz] at hn
   refine ZA (w' := W1.alloc (.cells #[.int .u8 13, .int .u8 10] 5 (2, 3))) (by simp [dwant, hg]) (show (execOp _ _).run Tryz.prog _ = .ok (.value (.slice (some ⟨w0.heap.size, 0, none⟩) 2 2)) _ by unfold execOp; rw [hop]; simp only [r29, Sem.run_bind, hc, Result.andThen_ok, Sem.run_pure]; rfl) ⟨hb1.trans (hb.mono hb1.size), fun h => ?_, fun _ h => ?_, fun _ => ?_⟩
   · simp [dset, h3] at h
   · simp [dset] at h
   · refine ⟨Nat.le_refl _, .inr ⟨w0.heap.size, 0, rfl, by rw [World.size_alloc]; omega, by rw [World.size_alloc]; omega, fun j hj => ?_⟩⟩
     rw [Nat.zero_add, cell_of_row _ _ j _ _ _ hn]
     have hj2 : j = 0 ∨ j = 1 := by simp only [List.length_cons, List.length_nil] at hj; omega
     rcases hj2 with rfl | rfl <;> rfl
 · obtain ⟨o', ho', hg, hop⟩ := se_o5
   obtain rfl := Option.some.inj (ho'.symm.trans ho)
   have r28 : dval QD (YW QD) (seV w0.heap.size bf n c m0 dl cd A Ad q) T 5 (.tmp 28) = .slice A n c := by kernel_rfl
   have r30 : dval QD (YW QD) (seV w0.heap.size bf n c m0 dl cd A Ad q) T 5 (.tmp 30) = .slice (some ⟨w0.heap.size, 0, none⟩) 2 2 := by kernel_rfl
   have h4 : m 4 = true := hal 4 (by have h : (dal (YW QD) 5).contains 4 = true := by kernel_rfl
                                     simpa using h)
   refine dstep_enter (by simp [dwant, hg]) (dexec_call hop rfl (by simp [go_sem, r28, r30])) ((trimSuf_any w0.heap.size _ A _ c 2 n m0 Tx hm hn hl w' (b1.below hS.bel) (hS.cr h4)).mono fun e w2 ⟨he, hw⟩ => ⟨he, hw ▸ hS.keep (by decide) (by decide)⟩)
 · obtain ⟨o', ho', hg, hop⟩ := se_o6
   obtain rfl := Option.some.inj (ho'.symm.trans ho)
   have r27 : dval QD (YW QD) (seV w0.heap.size bf n c m0 dl cd A Ad q) T 6 (.tmp 27) = .slice Ad dl cd := by kernel_rfl
   have r31 : dval QD (YW QD) (seV w0.heap.size bf n c m0 dl cd A Ad q) T 6 (.tmp 31) = .slice A m0 c := by kernel_rfl
   have hb := (b1.below hS.bel).take (hi := Tx.length) (by simp)
   rw [List.take_append_of_le_length (Nat.le_refl _), List.take_length] at hb
   refine dstep_enter (by simp [dwant, hg]) (dexec_call hop rfl (by simp [go_sem, r27, r31])) ((equalS_any _ _ Ad A cd c dl m0 dt Tx hd hm w' (b2.below hS.bel) hb).mono fun e w2 ⟨he, hw⟩ => ⟨by rw [he, hq]; rfl, hw ▸ hS.keep (by decide) (by decide)⟩)
 · obtain ⟨o', ho', hg, hop⟩ := se_o7
   obtain rfl := Option.some.inj (ho'.symm.trans ho)
   have r32 : dval QD (YW QD) (seV w0.heap.size bf n c m0 dl cd A Ad q) T 7 (.tmp 32) = .bool q := by kernel_rfl
   exact ZA (by simp [dwant, hg]) (show (execOp _ _).run Tryz.prog w' = .ok (.value (.bool q)) w' by simp [execOp, hop, go_sem, r32]) (hS.keep (by decide) (by decide))
 · omega
end Go.Proofs.YtpgfnlhfciacoaaGreatDoor
