/- Law 10: ReplyInverse. -/
import Derived.Test.YtpoejnajnaolpaaGreatDoorRpAlive
import Derived.Test.YtpoejnajnaolpaaGreatDoorRsAll
import Derived.Test.YtpoejnajnaolpaaGreatDoorRpSL
namespace Go.Proofs.YtpoejnajnaolpaaGreatDoor
open Go.RowKit

theorem spL_lenB {B : Nat} : ∀ (ps : List (List UInt8)), (∀ p ∈ ps, p.length ≤ B) → (spL ps).length ≤ (B + 1) * ps.length
  | [], _ => by rw [spL_nil]; simp
  | [q], h => by
    have := h q (by simp)
    rw [spL_one]
    simp only [List.length_cons, List.length_nil]
    omega
  | q :: q2 :: ps, h => by
    have h1 := h q (by simp)
    have h2 := spL_lenB (q2 :: ps) (fun p hp => h p (List.mem_cons_of_mem _ hp))
    rw [spL_cons, List.length_append, List.length_cons]
    rw [show (q :: q2 :: ps).length = (q2 :: ps).length + 1 from rfl, Nat.mul_succ]
    omega
theorem form_few {r : RI} (hr : RIok r) (hf : fewR r = true) : (rsForm r).length ≤ 4000 := by
  have hs := few_sm hf
  unfold fewR at hf
  simp only [Bool.and_eq_true, decide_eq_true_eq] at hf
  obtain ⟨f1, f2, f3⟩ := hf
  have h1 := dec_len hr.n
  have hp : ∀ p ∈ rsParts r, p.length ≤ 600 := by
    have h1 := list_len r.flags
    have h2 := dec_len hr.uid
    have h3 := dec_len hr.size
    have h4 := headL_len (n := r.body.length) (by omega)
    unfold rsParts
    intro p hp
    simp only [List.mem_append] at hp
    rcases hp with hp | hp | hp | hp
    all_goals
      split at hp
      · rw [List.mem_singleton] at hp
        subst hp
        first
          | (unfold literalL; simp only [List.length_append, List.length_cons, List.length_nil]; omega)
          | (simp only [List.length_append, List.length_cons, List.length_nil]; omega)
      · cases hp
  have h3 := spL_lenB (rsParts r) hp
  have h10 := (parts_len r hs hr.uid hr.size).1
  have h6 := list_len 31
  have h7 : (rsWord r.kind).length ≤ 10 := by unfold rsWord; split <;> (try split) <;> decide
  have h8 : (rsPre r.kind).length ≤ 10 := by unfold rsPre; split <;> (try split) <;> (try split) <;> decide
  have h9 : (rsStat r.status).length ≤ 10 := by unfold rsStat; split <;> (try split) <;> decide
  have hl : (rsLine r).length ≤ 3900 := by
    unfold rsLine
    split
    · simp only [List.length_append, List.length_cons, List.length_nil]; omega
    split
    · simp only [List.length_append, List.length_cons, List.length_nil]; omega
    split
    · simp only [List.length_append, List.length_cons, List.length_nil]; omega
    split
    · simp only [List.length_append, List.length_cons, List.length_nil]; omega
    · simp only [List.length_append]; omega
  unfold rsForm
  simp only [List.length_append, List.length_cons, List.length_nil]
  omega
theorem rsAllF_few {xs : List RX} (h : ∀ x ∈ xs, RIok x.r ∧ fewR x.r = true) : (rsAllF xs).length ≤ 4000 * xs.length := by
  induction xs with
  | nil => simp [rsAllF]
  | cons x xs ih =>
    have h1 := ih (fun y hy => h y (by simp [hy]))
    have h2 := h x (by simp)
    have h3 := form_few h2.1 h2.2
    have e : rsAllF (x :: xs) = (if rsOk x.r = true then rsForm x.r else []) ++ rsAllF xs := rfl
    rw [e, List.length_append, List.length_cons]
    split
    · omega
    · simp only [List.length_nil]; omega
/-- The valid ones. -/
def okX (xs : List RX) : List RX := xs.filter fun x => rsOk x.r
theorem okX_snoc {xs : List RX} {k : Nat} (h : k < xs.length) : okX (xs.take (k + 1)) = okX (xs.take k) ++ if rsOk xs[k].r = true then [xs[k]] else [] := by
  unfold okX
  rw [List.take_succ_eq_append_getElem h, List.filter_append]
  congr 1
  cases hq : rsOk xs[k].r <;> simp [hq]
theorem okX_forms (xs : List RX) : rsAllF xs = ((okX xs).map fun x => x.r).flatMap rsForm := by
  induction xs with
  | nil => rfl
  | cons x xs ih =>
    have e : rsAllF (x :: xs) = (if rsOk x.r = true then rsForm x.r else []) ++ rsAllF xs := rfl
    rw [e, ih]
    unfold okX
    cases hq : rsOk x.r <;> simp [hq]
theorem RowR.off_low {base : Nat} {w : World} {v : Value} {xs : List RX} (h : RowR base w v xs) {A : Option Addr} {c : Nat} {l : List UInt8} (hA : ByAt base w A c l) : l = [] ∨ OffS v.ownBlock A := by
  rcases hA.lies with h0 | ⟨b, off, hA', hlt, _⟩
  · exact .inl h0
  · refine .inr fun b' off' s e h2 => ?_
    rw [hA'] at e
    injection e with e
    injection e with e1
    have h3 := (h.own.lt b' h2.symm).1
    omega

set_option maxRecDepth 100000 in
set_option maxHeartbeats 8000000 in
theorem replyInverse_any (A : Option Addr) (c : Nat) (xs : List RX) (_hc : xs.length ≤ c) (hl : xs.length ≤ maxLen) (hok : ∀ x ∈ xs, RIok x.r) (w : World) (henv : Env w) (hS : RsAt w A xs) :
    Calls Tryz.prog 5 #[.slice A xs.length c] w fun e w' => e = .returned (.bool true) ∧ Below w.heap.size w w' := by
  obtain ⟨i0, hi, hz0, hz1, hz2⟩ := info_parts infoRs
  have FW := Lib.hid (rfew9_any xs A c xs.length rfl hl w hS)
  have AL := Lib.hid (fun W (h : Below w.heap.size w W) => alive10_any W (henv.below h))
  cases hf : fewRs xs with
  | false =>
    rw [hf] at FW
    have AL := Lib.hid (AL.out w (Below.refl _ _))
    clear hS henv hf hi hz0 hz1 hz2
    generalize xs.length = n at *
    go_enter Tryz.func5, Tryz.ntmps5
    go_wp2_with fail
    refine FW.out.mono ?_
    rintro e w1 ⟨rfl, rfl⟩
    go_wp2_with fail
    refine AL.out.mono ?_
    rintro e w2 ⟨rfl, hb⟩
    go_wp2_with fail
    go_ret
    exact ⟨rfl, hb⟩
  | true =>
    rw [hf] at FW
    unfold fewRs at hf
    rw [Bool.and_eq_true, decide_eq_true_eq, List.all_eq_true] at hf
    have h60 : xs.length ≤ 60 := hf.2
    have HOK := Lib.hid (fun x (hx : x ∈ xs) => show RIok x.r ∧ RIsm x.r from ⟨hok x hx, few_sm (hf.1 x hx)⟩)
    have HLN := Lib.hid (show (rsAllF xs).length ≤ 1000000 from Nat.le_trans (rsAllF_few (fun x hx => ⟨hok x hx, hf.1 x hx⟩)) (by omega))
    have HRP := Lib.hid (show Rps (rsAllF xs) ((okX xs).map fun x => x.r) [] from by
      rw [okX_forms]
      refine rps_forms _ (fun r hr => ?_)
      obtain ⟨x, hx, rfl⟩ := List.mem_map.1 hr
      obtain ⟨h1, h2⟩ := List.mem_filter.1 hx
      exact ⟨hok x h1, h2⟩)
    have PA := Lib.hid (pall_any xs A c xs.length rfl h60 HOK.out w henv hS)
    have HEV := Lib.hid (fun W (h : Below w.heap.size w W) => henv.below h)
    have HS := Lib.hid hS
    obtain ⟨n, hn⟩ : ∃ n, xs.length = n := ⟨_, rfl⟩
    have HN := Lib.hid hn
    rw [hn] at FW PA h60 ⊢
    clear hS henv hf hl hok hn _hc
    go_enter Tryz.func5, Tryz.ntmps5
    go_wp2_with fail
    refine FW.out.mono ?_
    rintro e w1 ⟨rfl, rfl⟩
    clear FW
    go_wp2_with fail
    refine PA.out.mono ?_
    rintro e w2 ⟨A2, c2, rfl, hby2, hb2⟩
    have HB2 := Lib.hid hb2
    obtain ⟨L, hL⟩ : ∃ L, rsAllF xs = L := ⟨_, rfl⟩
    rw [hL] at hby2 HLN HRP ⊢
    have AP := Lib.hid (pall10_any _ c2 L.length A2 L rfl HLN.out w2 (HEV.out w2 hb2) hby2)
    obtain ⟨ln, hln⟩ : ∃ ln, L.length = ln := ⟨_, rfl⟩
    have HLL := Lib.hid hln
    rw [hln] at AP ⊢
    clear hb2 hby2 hL hln PA
    go_wp2_with fail
    refine AP.out.mono ?_
    rintro e w3 ⟨ys, A3, c3, u, m, hr, hm, rfl, hS3, hb3⟩
    obtain ⟨e1, rfl⟩ := hr.det HRP.out
    have HYS := Lib.hid e1
    obtain rfl : m = ln := by rw [← HLL.out]; simpa using hm
    have HB3 := Lib.hid (below_next HB2.out hb3)
    have HS3 := Lib.hid hS3
    have HB33 := Lib.hid (Below.refl w3.heap.size w3)
    obtain ⟨yn, hyn⟩ : ∃ yn, ys.length = yn := ⟨_, rfl⟩
    have HYN := Lib.hid hyn
    have HY6 := Lib.hid (show yn ≤ 60 by
      have h1 := congrArg List.length e1
      simp only [List.length_map] at h1
      have h2 : (okX xs).length ≤ xs.length := List.length_filter_le _ _
      rw [HN.out] at h2
      omega)
    rw [hyn]
    clear hr hm hS3 hb3 AP e1 hyn
    go_wp2_with fail
    go_loopw [6, 22] (fun v i wr => ∃ (k p : Nat) (Av : Option Addr) (cv : Nat), k ≤ n ∧ p ≤ k ∧ i = .int .i64 (k : Int) ∧ v = .slice Av p cv ∧ Hid ((okX (xs.take k)).length = p) ∧ Hid (RowR w3.heap.size wr (.slice Av p cv) (okX (xs.take k))) ∧ Hid (Below w3.heap.size w3 wr)) (fun _ i _ => n - (intOf i).toNat)
    case atStart => exact ⟨0, 0, none, 0, Nat.zero_le _, Nat.le_refl _, rfl, rfl, Lib.hid rfl, Lib.hid (RowR.nil _ _), HB33⟩
    case round =>
    obtain ⟨k, p, Av, cv, hk, hpk, rfl, rfl, hX, hO, hB⟩ := hrel
    have HBW := Lib.hid (below_next HB3.out hB.out)
    by_cases hlt : k < n
    · have hlx : k < xs.length := by rw [HN.out]; exact hlt
      obtain ⟨b, off, rfl, -, c0, c1, c2', c3', c4, c5, c6, c7, c8, c9⟩ := (HS.out.below HBW.out).at hlx
      have hk0 : (0 : Int) ≤ (k : Int) := by omega
      have hk1 : (k : Int) < (n : Int) := by omega
      have hx := HOK.out _ (List.getElem_mem hlx)
      have hbyw := HS.out.each _ (List.getElem_mem hlx)
      have HOFF := Lib.hid (hO.out.off_low ((hbyw.below HBW.out).mono HB3.out.size))
      have HBX := Lib.hid (below_al wr (.cells (encRx xs[k]).toArray 27))
      have HBK := Lib.hid (heap_alloc_new wr (.cells (encRx xs[k]).toArray 27))
      have RV := Lib.hid (rvalid9_any xs[k].r hx.1 hx.2 xs[k].A xs[k].k (wr.alloc (.cells (encRx xs[k]).toArray 27)) (((hbyw.below HBW.out).here.below HBX.out).here))
      have HBY := Lib.hid ((hbyw.below HBW.out).here)
      have HST := Lib.hid (okX_snoc hlx)
      have hxk : Hid (xs[k] = ⟨xs[k].r, xs[k].A, xs[k].k⟩) := Lib.hid rfl
      clear hx hbyw
      generalize xs[k].r = r at *
      generalize xs[k].A = Ar at *
      generalize xs[k].k = kr at *
      rw [hxk.out] at HST HBX HBK RV
      clear hxk
      unfold rsV encRx at RV
      unfold encRx at HBX HBK
      cases hq : rsOk r with
      | false =>
        rw [hq] at RV HST
        have HX2 := Lib.hid (show okX (xs.take (k + 1)) = okX (xs.take k) by rw [HST.out]; simp)
        clear HST hq HOFF
        go_wp2_with fail
        refine RV.out.mono ?_
        rintro e w4 ⟨rfl, hb4⟩
        have HB4 := Lib.hid (below_next HBX.out hb4)
        have HO4 := Lib.hid (hO.out.below HB4.out)
        have HB5 := Lib.hid (below_next hB.out HB4.out)
        have HX3 := Lib.hid (show (okX (xs.take (k + 1))).length = p by rw [HX2.out]; exact hX.out)
        have HO5 := Lib.hid (show RowR w3.heap.size w4 (.slice Av p cv) (okX (xs.take (k + 1))) by rw [HX2.out]; exact HO4.out)
        clear hb4 RV c0 c1 c2' c3' c4 c5 c6 c7 c8 c9
        go_wp2_with fail
        go_roundw
        case rel => exact ⟨k + 1, p, Av, cv, by omega, by omega, by go_num, rfl, HX3, HO5, HB5⟩
        case measure => simp [intOf]; omega
      | true =>
        rw [hq] at RV HST
        have HX2 := Lib.hid (show okX (xs.take (k + 1)) = okX (xs.take k) ++ [⟨r, Ar, kr⟩] by rw [HST.out]; simp)
        clear HST hq
        go_wp2_with fail
        refine RV.out.mono ?_
        rintro e w4 ⟨rfl, hb4⟩
        have HB4 := Lib.hid (below_next HBX.out hb4)
        have HBK4 := Lib.hid ((hb4.block wr.heap.size (by simp)).trans HBK.out)
        have HWW := Lib.hid (below_next HB4.out (below_al w4 (.cells (encRx ⟨r, Ar, kr⟩).toArray 27)))
        have HO4 := Lib.hid (hO.out.below HWW.out).own
        rw [hX.out] at HO4
        have HSX := Lib.hid (rsAt_one ((HBY.out.below HB4.out).here)).sl
        have HB5 := Lib.hid (below_next hB.out HWW.out)
        have HSZ := Lib.hid HB5.out.size
        have HSD := Lib.hid ((HBY.out.below HWW.out).here.sl)
        obtain ⟨x0, x1, x2, x3, x4, x5, x6, x7, x8, x9⟩ := cells10 HBK4.out
        have h63 : p + 1 ≤ maxLen := by unfold maxLen; omega
        have hbyt : (p + 1) * 104 ≤ 140737488355328 := by omega
        have H63 := Lib.hid h63
        have HBYT := Lib.hid hbyt
        clear h63 hbyt hb4 RV c0 c1 c2' c3' c4 c5 c6 c7 c8 c9
        unfold encRx at HWW HO4 HSX HB5 HSZ HSD
        go_wp2_with (at_builtin; refine wpList_append_slf _ rfl _ _ 32 rfl w3.heap.size 27 i0 _ 104 Tryz.underlying32 hi hz0 hz1 hz2 rfl (by decide) _ p _ rfl HO4.out _ [(⟨r, Ar, kr⟩ : RX)] _ rfl encRx_len HSX.out (one_flatR _) H63.out HBYT.out HSZ.out ?_; intro vv w5 hown3 hg3 hf3)
        obtain ⟨A6, c6', rfl⟩ := own_any hown3
        have RX' := Lib.hid (hO.out.snoc HWW.out (x := ⟨r, Ar, kr⟩) HSD.out HBY.out.le HOFF.out (by rw [hX.out]; exact hown3) hg3 hf3)
        rw [← HX2.out] at RX'
        have HX3 := Lib.hid (show (okX (xs.take (k + 1))).length = p + 1 by rw [HX2.out, List.length_append, hX.out]; rfl)
        have HB6 := Lib.hid (HB5.out.grown hg3 HSZ.out (fun kk hkk => (HO4.out.lt kk hkk).1))
        clear hown3 hg3 hf3
        go_roundw
        case rel => exact ⟨k + 1, p + 1, A6, c6', by omega, by omega, by go_num, rfl, HX3, RX', HB6⟩
        case measure => simp [intOf]; omega
    · obtain rfl : k = n := by omega
      have ht : okX (xs.take k) = okX xs := by rw [List.take_of_length_le (by rw [HN.out]; exact Nat.le_refl _)]
      have HRA := Lib.hid (show RsAt wr Av (okX xs) by rw [← ht]; exact hO.out.rsAt hX.out.symm)
      have HXL := Lib.hid (show (okX xs).length = p by rw [← ht]; exact hX.out)
      have AL := Lib.hid (AL.out wr HBW.out)
      have SL := Lib.hid (fun W (hW : Below wr.heap.size wr W) => sameList_t ys (okX xs) HYS.out A3 Av c3 cv yn p HYN.out HXL.out (by have := HY6.out; omega) W (HS3.out.below (below_next hB.out hW)) (HRA.out.below hW))
      clear ht hX hO
      go_wp2_with fail
      refine AL.out.mono ?_
      rintro e w4 ⟨rfl, hb4⟩
      have HB4 := Lib.hid (below_next HBW.out hb4)
      have SL := Lib.hid (SL.out w4 hb4)
      clear hb4 AL
      go_wp2_with fail
      refine SL.out.mono ?_
      rintro e w5 ⟨rfl, hb5⟩
      have HB5 := Lib.hid (below_next HB4.out hb5)
      clear hb5
      go_wp2_with fail
      go_ret
      exact ⟨by first | rfl | simp, HB5.out⟩
end Go.Proofs.YtpoejnajnaolpaaGreatDoor
