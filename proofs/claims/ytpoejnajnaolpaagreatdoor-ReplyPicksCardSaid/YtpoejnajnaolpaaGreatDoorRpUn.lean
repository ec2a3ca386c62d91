/- reply: Until; slices.IndexFunc at responses. -/
import Derived.Test.YtpoejnajnaolpaaGreatDoorRpCp
import Derived.Deep.RegionWith
import Derived.Deep.RegionHeld3
namespace Go.Proofs.YtpoejnajnaolpaaGreatDoor
open Go.RowKit

/-- Tagged with the tag. -/
def isT (t : List UInt8) (r : RI) : Bool := r.kind == 9 && r.tag == t
def ixO (t : List UInt8) (xs : List RX) : Option Nat := xs.findIdx? fun x => isT t x.r
theorem undRs : Tryz.prog.underlying 32 = some (.slice (Tryz.prog.elem 32)) := by kernel_rfl
theorem sizeRs (w : World) : (sizeOf (Tryz.prog.elem 32)).run Tryz.prog w = .ok 10 w := by kernel_rfl
def offR (A : Option Addr) (c lo : Nat) : Option Addr := if c = lo then A else A.map (·.add (lo * 10))
theorem rs_l (A : Option Addr) (n c lo : Nat) (h1 : lo ≤ n) (W : World) :
    (Instr.slice 32 (.slice A n c) (some (.int .i64 (lo : Int))) none none).run Tryz.prog W = .ok (.slice (offR A c lo) (n - lo) (c - lo)) W := by
  rw [run_slice_l W _ A n c undRs .i64 lo (by omega) (by omega), sizeRs]
  rfl
theorem rs_h (A : Option Addr) (n c hi : Nat) (h1 : hi ≤ c) (W : World) :
    (Instr.slice 32 (.slice A n c) none (some (.int .i64 (hi : Int))) none).run Tryz.prog W = .ok (.slice A hi c) W := by
  rw [run_slice_h W _ A n c undRs .i64 hi (by omega) (by omega), sizeRs]
  have e : (if c = 0 then A else A.map (·.add (0 * 10))) = A := by
    split
    · rfl
    · rcases A with _ | ⟨b, o, s⟩ <;> simp [Addr.add]
  simp only [Result.andThen, sliced, e, Int.toNat_natCast, Nat.sub_zero]
theorem rs_at (x : Value) (lo hi mx : Option Value) (W : World) : (Instr.sliceAt 32 x lo hi mx).run Tryz.prog W = (Instr.slice 32 x lo hi mx).run Tryz.prog W := run_sliceAt_slice W _ _ _ _ _ undRs
theorem RsAt.take {w : World} {A : Option Addr} {xs : List RX} (h : RsAt w A xs) (i : Nat) : RsAt w A (xs.take i) := by
  refine ⟨?_, fun x hx => h.each x (List.mem_of_mem_take hx)⟩
  rcases h.sl with rfl | ⟨b, off, hA, hlt, hc⟩
  · exact .inl (by simp)
  · refine .inr ⟨b, off, hA, hlt, fun j x hj q v hq => hc j x ?_ q v hq⟩
    rw [List.getElem?_take] at hj
    split at hj
    · exact hj
    · cases hj
theorem RsAt.drop {w : World} {A : Option Addr} {c : Nat} {xs : List RX} (h : RsAt w A xs) {i : Nat} (hi : i ≤ xs.length) (hc : xs.length ≤ c) : RsAt w (offR A c i) (xs.drop i) := by
  refine ⟨?_, fun x hx => h.each x (List.mem_of_mem_drop hx)⟩
  rcases h.sl with rfl | ⟨b, off, rfl, hlt, hcc⟩
  · exact .inl (by simp)
  · by_cases h0 : i = xs.length
    · exact .inl (List.drop_eq_nil_of_le (by omega))
    · refine .inr ⟨b, off + i * 10, ?_, hlt, fun j x hj q v hq => ?_⟩
      · unfold offR
        rw [if_neg (by omega)]
        simp [Addr.add]
      · rw [List.getElem?_drop] at hj
        have := hcc (i + j) x hj q v hq
        rw [show off + i * 10 + j * 10 + q = off + (i + j) * 10 + q by omega]
        exact this

set_option maxRecDepth 100000 in
set_option maxHeartbeats 1000000 in
theorem untilF_any (bx : Nat) (t : List UInt8) (r : RI) (A : Option Addr) (k : Nat) (W : World) (hc : W.cell? ⟨bx, 0, none⟩ = some (.string ⟨t.toArray⟩)) (hb : bx < W.heap.size) :
    Calls Tryz.prog 34 #[rsV r A k, .pointer (some ⟨bx, 0, none⟩)] W fun e w' => e = .returned (.bool (isT t r)) ∧ Below W.heap.size W w' := by
  have HB := Lib.hid (below_al W (.cells (encRx ⟨r, A, k⟩).toArray 27))
  have hc2 := (HB.out.cell (p := ⟨bx, 0, none⟩) hb).trans hc
  have HT : Hid (isT t r = (r.kind == 9 && r.tag == t)) := Lib.hid rfl
  generalize isT t r = q at *
  unfold encRx at HB hc2
  unfold rsV
  cases h9 : (r.kind == 9) with
  | false =>
    have HQ := Lib.hid (show q = false by rw [HT.out, h9]; rfl)
    clear HT
    go_enter Tryz.func34, Tryz.ntmps34
    go_wp2_with fail
    go_ret
    exact ⟨ret_bool HQ.out.symm, HB.out⟩
  | true =>
    cases ht : (r.tag == t) with
    | false =>
      have HQ := Lib.hid (show q = false by rw [HT.out, h9, ht]; rfl)
      clear HT
      go_enter Tryz.func34, Tryz.ntmps34
      go_wp2_with fail
      go_ret
      exact ⟨ret_bool HQ.out.symm, HB.out⟩
    | true =>
      have HQ := Lib.hid (show q = true by rw [HT.out, h9, ht]; rfl)
      obtain rfl := beq_iff_eq.1 ht
      clear HT ht
      go_enter Tryz.func34, Tryz.ntmps34
      go_wp2_with fail
      go_ret
      exact ⟨ret_bool HQ.out.symm, HB.out⟩

set_option maxRecDepth 100000 in
set_option maxHeartbeats 1000000 in
theorem picksF_any (bx : Nat) (t : List UInt8) (r : RI) (A : Option Addr) (k : Nat) (W : World) (hc : W.cell? ⟨bx, 0, none⟩ = some (.string ⟨t.toArray⟩)) (hb : bx < W.heap.size) :
    Calls Tryz.prog 22 #[rsV r A k, .pointer (some ⟨bx, 0, none⟩)] W fun e w' => e = .returned (.bool (isT t r)) ∧ Below W.heap.size W w' := by
  have HB := Lib.hid (below_al W (.cells (encRx ⟨r, A, k⟩).toArray 27))
  have hc2 := (HB.out.cell (p := ⟨bx, 0, none⟩) hb).trans hc
  have HT : Hid (isT t r = (r.kind == 9 && r.tag == t)) := Lib.hid rfl
  generalize isT t r = q at *
  unfold encRx at HB hc2
  unfold rsV
  cases h9 : (r.kind == 9) with
  | false =>
    have HQ := Lib.hid (show q = false by rw [HT.out, h9]; rfl)
    clear HT
    go_enter Tryz.func22, Tryz.ntmps22
    go_wp2_with fail
    go_ret
    exact ⟨ret_bool HQ.out.symm, HB.out⟩
  | true =>
    cases ht : (r.tag == t) with
    | false =>
      have HQ := Lib.hid (show q = false by rw [HT.out, h9, ht]; rfl)
      clear HT
      go_enter Tryz.func22, Tryz.ntmps22
      go_wp2_with fail
      go_ret
      exact ⟨ret_bool HQ.out.symm, HB.out⟩
    | true =>
      have HQ := Lib.hid (show q = true by rw [HT.out, h9, ht]; rfl)
      obtain rfl := beq_iff_eq.1 ht
      clear HT ht
      go_enter Tryz.func22, Tryz.ntmps22
      go_wp2_with fail
      go_ret
      exact ⟨ret_bool HQ.out.symm, HB.out⟩

set_option maxRecDepth 100000 in
set_option maxHeartbeats 4000000 in
theorem indexFunc_any (F : FuncId) (hE : ∀ args w, (callFunc F args).run Tryz.prog w = .ok (.enter F args) w) (bx : Nat) (t : List UInt8)
    (hF : ∀ (r : RI) (A : Option Addr) (k : Nat) (W : World), W.cell? ⟨bx, 0, none⟩ = some (.string ⟨t.toArray⟩) → bx < W.heap.size → Calls Tryz.prog F #[rsV r A k, .pointer (some ⟨bx, 0, none⟩)] W fun e w' => e = .returned (.bool (isT t r)) ∧ Below W.heap.size W w')
    (xs : List RX) (A : Option Addr) (c n : Nat) (hn : xs.length = n) (hl : n ≤ 1000) (w : World) (hS : RsAt w A xs) (hc : w.cell? ⟨bx, 0, none⟩ = some (.string ⟨t.toArray⟩)) (hb : bx < w.heap.size) :
    Calls Tryz.prog 21 #[.slice A n c, .func (Fn.func F) #[] #[.pointer (some ⟨bx, 0, none⟩)]] w fun e w' =>
      ((∃ i : Nat, i < n ∧ ixO t xs = some i ∧ e = .returned (.int .i64 (i : Int))) ∨ (ixO t xs = none ∧ e = .returned (.int .i64 (-1)))) ∧ Below w.heap.size w w' := by
  have HF := Lib.hid (fun r A k W (hW : Below w.heap.size w W) => hF r A k W ((hW.cell (p := ⟨bx, 0, none⟩) hb).trans hc) (Nat.lt_of_lt_of_le hb hW.size))
  have HS := Lib.hid hS
  have HN := Lib.hid hn
  clear hS hn hF hc hb
  go_enter Tryz.func21, Tryz.ntmps21
  go_wp2_with fail
  go_loopw [8] (fun i wr => ∃ k : Nat, k ≤ n ∧ i = .int .i64 (k : Int) ∧ Hid (∀ j (h : j < xs.length), j < k → isT t xs[j].r = false) ∧ Hid (Below w.heap.size w wr)) (fun i _ => n - (intOf i).toNat)
  case atStart => exact ⟨0, Nat.zero_le _, rfl, Lib.hid (fun j _ h => by omega), Lib.hid (Below.refl _ _)⟩
  case round =>
    obtain ⟨k, hk, rfl, hD, hB⟩ := hrel
    by_cases hlt : k < n
    · have hlx : k < xs.length := by rw [HN.out]; exact hlt
      obtain ⟨b, off, rfl, -, c0, c1, c2', c3', c4, c5, c6, c7, c8, c9⟩ := (HS.out.below hB.out).at hlx
      have hk0 : (0 : Int) ≤ (k : Int) := by omega
      have hk1 : (k : Int) < (n : Int) := by omega
      have C := Lib.hid (HF.out xs[k].r xs[k].A xs[k].k wr hB.out)
      have HYE := Lib.hid (fun (h : isT t xs[k].r = true) => show ixO t xs = some k by
        unfold ixO
        rw [List.findIdx?_eq_some_iff_getElem]
        exact ⟨hlx, h, fun j hj => by rw [hD.out j (by omega) hj]; decide⟩)
      have HNO := Lib.hid (fun (h : isT t xs[k].r = false) => show ∀ j (h : j < xs.length), j < k + 1 → isT t xs[j].r = false from fun j hj hjk => by
        rcases Nat.lt_or_ge j k with h1 | h1
        · exact hD.out j hj h1
        · obtain rfl : j = k := by omega
          exact h)
      unfold rsV at C
      generalize isT t xs[k].r = q at *
      generalize xs[k].r = r at *
      generalize xs[k].A = Ar at *
      generalize xs[k].k = kr at *
      cases q with
      | true =>
        have HY := Lib.hid (HYE.out rfl)
        clear HNO HYE
        go_wp2_with fail
        refine C.out.mono ?_
        rintro e w2 ⟨rfl, hb2⟩
        have HB2 := Lib.hid (below_next hB.out hb2)
        clear hb2 C
        go_wp2_with fail
        go_ret
        exact ⟨.inl ⟨k, hlt, HY.out, rfl⟩, HB2.out⟩
      | false =>
        have HN2 := Lib.hid (HNO.out rfl)
        clear HNO HYE
        go_wp2_with fail
        refine C.out.mono ?_
        rintro e w2 ⟨rfl, hb2⟩
        have HB2 := Lib.hid (below_next hB.out hb2)
        clear hb2 C
        go_wp2_with fail
        go_roundw
        case rel => exact ⟨k + 1, by omega, by go_num, HN2, HB2⟩
        case measure => simp [intOf]; omega
    · obtain rfl : k = n := by omega
      have HNN := Lib.hid (show ixO t xs = none by
        unfold ixO
        rw [List.findIdx?_eq_none_iff]
        intro x hx
        obtain ⟨j, hj, rfl⟩ := List.mem_iff_getElem.1 hx
        exact hD.out j hj (by rw [← HN.out]; exact hj))
      clear hD
      go_wp2_with fail
      go_ret
      exact ⟨.inr ⟨HNN.out, rfl⟩, hB.out⟩

/-- What Until returns. -/
def UnPo (t : List UInt8) (xs : List RX) (e : Ending) (w' : World) : Prop :=
  (∃ i ys zs A1 c1 m1 A2 c2 m2, i < xs.length ∧ ixO t xs = some i ∧ e = .returned (.tuple #[.slice A1 m1 c1, .slice A2 m2 c2, .bool true]) ∧ ys.length = m1 ∧ zs.length = m2 ∧ ys.map (fun x : RX => x.r) = (xs.take i).map (fun x => x.r) ∧ zs.map (fun x : RX => x.r) = (xs.drop (i + 1)).map (fun x => x.r) ∧ RsAt w' A1 ys ∧ RsAt w' A2 zs) ∨
  (ixO t xs = none ∧ ∃ ys A1 c1 m1, e = .returned (.tuple #[.slice A1 m1 c1, .slice none 0 0, .bool false]) ∧ ys.length = m1 ∧ ys.map (fun x : RX => x.r) = xs.map (fun x => x.r) ∧ RsAt w' A1 ys)

set_option maxRecDepth 100000 in
set_option maxHeartbeats 4000000 in
theorem until_any (t : List UInt8) (xs : List RX) (A : Option Addr) (c n : Nat) (hn : xs.length = n) (hnc : n ≤ c) (hl : n ≤ 1000) (hsm : ∀ x ∈ xs, x.r.body.length ≤ 1000000) (w : World) (hS : RsAt w A xs) :
    Calls Tryz.prog 23 #[.string ⟨t.toArray⟩, .slice A n c] w fun e w' => UnPo t xs e w' ∧ Below w.heap.size w w' := by
  have hmf : ∀ (fn : Fn) (first cap : Array Value) (w : World), (Instr.makeFunc fn first cap).run Tryz.prog w = .ok (.func fn first cap) w := fun _ _ _ _ => rfl
  have HB0 := Lib.hid (below_al w (.cells #[.string ⟨t.toArray⟩] 9))
  have IX := Lib.hid (indexFunc_any 34 (fun _ _ => rfl) w.heap.size t (untilF_any w.heap.size t) xs A c n hn hl (w.alloc (.cells #[.string ⟨t.toArray⟩] 9)) (hS.below HB0.out) (cell_of_row _ _ 0 _ _ _ (heap_alloc_new w _)) (by simp))
  have CA := Lib.hid (fun W (hW : Below w.heap.size w W) => copies_any xs A c n hn hl hsm W (hS.below hW))
  have CT := Lib.hid (fun i (hi : i < n) W (hW : Below w.heap.size w W) => copies_any (xs.take i) A c i (by rw [List.length_take]; omega) (by omega) (fun x hx => hsm x (List.mem_of_mem_take hx)) W ((hS.below hW).take i))
  have CD := Lib.hid (fun i (hi : i < n) W (hW : Below w.heap.size w W) => copies_any (xs.drop (i + 1)) (offR A c (i + 1)) (c - (i + 1)) (n - (i + 1)) (by rw [List.length_drop]; omega) (by omega) (fun x hx => hsm x (List.mem_of_mem_drop hx)) W ((hS.below hW).drop (by omega) (by omega)))
  have HN := Lib.hid hn
  clear hS hn hsm
  generalize ByteArray.mk t.toArray = tb at *
  go_enter Tryz.func23, Tryz.ntmps23
  go_wp2_with fail
  refine IX.out.mono ?_
  rintro e w1 ⟨(⟨i, hi, hix, rfl⟩ | ⟨hix, rfl⟩), hb1⟩
  · have HB1 := Lib.hid (below_next HB0.out hb1)
    have HIX := Lib.hid hix
    have CT := Lib.hid (fun W (hW : Below w1.heap.size w1 W) => (CT.out i hi W (below_next HB1.out hW)).mono (R' := fun e w' => ∃ ys A' c', e = .returned (.slice A' i c') ∧ Hid (ys.map (fun x => x.r) = (xs.take i).map (fun x => x.r)) ∧ RsAt w' A' ys ∧ Below W.heap.size W w' ∧ Below w1.heap.size w1 w') fun e w' ⟨ys, A', c', a1, a2, a3, a4⟩ => ⟨ys, A', c', a1, Lib.hid a2, a3, a4, below_next hW a4⟩)
    have CD := Lib.hid (fun W (hW : Below w1.heap.size w1 W) => (CD.out i hi W (below_next HB1.out hW)).mono (R' := fun e w' => ∃ zs A' c', e = .returned (.slice A' (n - (i + 1)) c') ∧ Hid (zs.map (fun x => x.r) = (xs.drop (i + 1)).map (fun x => x.r)) ∧ RsAt w' A' zs ∧ Below W.heap.size W w' ∧ Below w1.heap.size w1 w') fun e w' ⟨ys, A', c', a1, a2, a3, a4⟩ => ⟨ys, A', c', a1, Lib.hid a2, a3, a4, below_next hW a4⟩)
    have hlo := fun W => rs_l A n c (i + 1) (by omega) W
    have hhi := fun W => rs_h A n c i (by omega) W
    have hse := fun x lo hi mx W => rs_at x lo hi mx W
    have hcast : ((i + 1 : Nat) : Int) = (i : Int) + 1 := by omega
    rw [hcast] at hlo
    have hm0 : (0 : Int) ≤ (i : Int) := by omega
    have hm1 : (i : Int) ≤ (n : Int) := by omega
    have hm2 : (i : Int) ≤ (c : Int) := by omega
    have hm3 : (0 : Int) ≤ (i : Int) + 1 := by omega
    have hm4 : (i : Int) + 1 ≤ (n : Int) := by omega
    have hm5 : (i : Int) + 1 ≤ (c : Int) := by omega
    have hwi : IntKind.i64.wrap ((i : Int) + 1) = (i : Int) + 1 := IntWalk.i64_in _ (by omega)
    clear hcast hix hb1 IX CA
    go_wp2_with fail
    go_region_held3 (fun w' => Below w1.heap.size w1 w')
      ((repeat (first | assumption | exact Below.refl _ _ | refine belDrawN ?_ _ | refine belDraw ?_ | refine belAlloc ?_ _)))
      (first
        | (go_at_call 35; (with_reducible refine (CT.out _ ?_).mono ?_); (focus (repeat (first | assumption | exact Below.refl _ _ | refine belDrawN ?_ _ | refine belDraw ?_ | refine belAlloc ?_ _))); rintro e' w2 ⟨ys, A2, c2, rfl, hm2, hS2, hb2, hbS2⟩; (try replace hS3 := hS3.below (below_next (by (repeat (first | assumption | exact Below.refl _ _ | refine belDrawN ?_ _ | refine belDraw ?_ | refine belAlloc ?_ _))) hb2)))
        | (go_at_call 35; (with_reducible refine (CD.out _ ?_).mono ?_); (focus (repeat (first | assumption | exact Below.refl _ _ | refine belDrawN ?_ _ | refine belDraw ?_ | refine belAlloc ?_ _))); rintro e' w3 ⟨zs, A3, c3, rfl, hm3, hS3, hb3, hbS3⟩; (try replace hS2 := hS2.below (below_next (by (repeat (first | assumption | exact Below.refl _ _ | refine belDrawN ?_ _ | refine belDraw ?_ | refine belAlloc ?_ _))) hb3))))
    all_goals
      have HL2 := Lib.hid (show ys.length = i by have := congrArg List.length hm2.out; simp only [List.length_map, List.length_take] at this; rw [this, HN.out]; omega)
      have HL3 := Lib.hid (show zs.length = n - (i + 1) by have := congrArg List.length hm3.out; simp only [List.length_map, List.length_drop] at this; rw [this, HN.out])
      clear CT CD
      go_wp2_with fail
      refine bodyPost_ret (v := .tuple #[.slice A2 i c2, .slice A3 (n - (i + 1)) c3, .bool true]) (by simp [results, Tryz.results23, go_sem]) rfl ⟨.inl ⟨i, ys, zs, A2, c2, _, A3, c3, _, by rw [HN.out]; exact hi, HIX.out, rfl, HL2.out, HL3.out, hm2.out, hm3.out, hS2.below (by (repeat (first | assumption | exact Below.refl _ _ | refine belDrawN ?_ _ | refine belDraw ?_ | refine belAlloc ?_ _))), hS3.below (by (repeat (first | assumption | exact Below.refl _ _ | refine belDrawN ?_ _ | refine belDraw ?_ | refine belAlloc ?_ _)))⟩, below_next HB1.out (by (repeat (first | assumption | exact Below.refl _ _ | refine belDrawN ?_ _ | refine belDraw ?_ | refine belAlloc ?_ _)))⟩
  · have HB1 := Lib.hid (below_next HB0.out hb1)
    have HIX := Lib.hid hix
    have CA := Lib.hid (CA.out w1 HB1.out)
    clear hix hb1 IX CT CD
    go_wp2_with fail
    refine CA.out.mono ?_
    rintro e w2 ⟨ys, A2, c2, rfl, hm2, hS2, hb2⟩
    have HB2 := Lib.hid (below_next HB1.out hb2)
    have HS2 := Lib.hid hS2
    have HM2 := Lib.hid hm2
    have HL2 := Lib.hid (show ys.length = n by have := congrArg List.length hm2; simp only [List.length_map] at this; rw [this]; exact HN.out)
    clear hm2 hS2 hb2 CA
    go_wp2_with fail
    refine bodyPost_ret (v := .tuple #[.slice A2 n c2, .slice none 0 0, .bool false]) (by simp [results, Tryz.results23, go_sem]) rfl ⟨.inr ⟨HIX.out, ys, A2, c2, n, rfl, HL2.out, HM2.out, HS2.out⟩, HB2.out⟩
end Go.Proofs.YtpoejnajnaolpaaGreatDoor
