/- Law 10: ReplyPicks. -/
import Derived.Test.YtpoejnajnaolpaaGreatDoorRpUn
import Derived.Test.YtpoejnajnaolpaaGreatDoorRpSL
import Derived.Test.YtpoejnajnaolpaaGreatDoorL10C
namespace Go.Proofs.YtpoejnajnaolpaaGreatDoor
open Go.RowKit

/-- What was found and what was returned. -/
def PkF (xs : List RX) (at_ : Int) (ok : Bool) (ys zs : List RX) (m2 : Nat) : Prop :=
  (ok = true ∧ ∃ i : Nat, at_ = i ∧ i < xs.length ∧ ys.map (fun x : RX => x.r) = (xs.take i).map (fun x => x.r) ∧ zs.map (fun x : RX => x.r) = (xs.drop (i + 1)).map (fun x => x.r)) ∨
  (ok = false ∧ at_ = -1 ∧ ys.map (fun x : RX => x.r) = xs.map (fun x => x.r) ∧ m2 = 0)
theorem pk_of {t : List UInt8} {xs : List RX} {e1 e2 : Ending} {w' : World} {n : Nat} (h1 : (∃ i : Nat, i < n ∧ ixO t xs = some i ∧ e1 = .returned (.int .i64 (i : Int))) ∨ (ixO t xs = none ∧ e1 = .returned (.int .i64 (-1)))) (h2 : UnPo t xs e2 w') :
    ∃ at_ ok ys zs A1 c1 m1 A2 c2 m2, e1 = .returned (.int .i64 at_) ∧ e2 = .returned (.tuple #[.slice A1 m1 c1, .slice A2 m2 c2, .bool ok]) ∧ ys.length = m1 ∧ zs.length = m2 ∧ RsAt w' A1 ys ∧ RsAt w' A2 zs ∧ PkF xs at_ ok ys zs m2 := by
  rcases h1 with ⟨i, hi, hix, rfl⟩ | ⟨hix, rfl⟩
  · rcases h2 with ⟨j, ys, zs, A1, c1, m1, A2, c2, m2, hj, hjx, rfl, a1, a2, a3, a4, a5, a6⟩ | ⟨hjx, _⟩
    · rw [hix] at hjx
      obtain rfl := Option.some.inj hjx
      exact ⟨i, true, ys, zs, A1, c1, m1, A2, c2, m2, rfl, rfl, a1, a2, a5, a6, .inl ⟨rfl, i, rfl, hj, a3, a4⟩⟩
    · rw [hix] at hjx; cases hjx
  · rcases h2 with ⟨j, ys, zs, A1, c1, m1, A2, c2, m2, hj, hjx, _⟩ | ⟨_, ys, A1, c1, m1, rfl, a1, a2, a3⟩
    · rw [hix] at hjx; cases hjx
    · exact ⟨-1, false, ys, [], A1, c1, m1, none, 0, 0, rfl, rfl, a1, rfl, a3, ⟨.inl rfl, fun x hx => by cases hx⟩, .inr ⟨rfl, rfl, a2, rfl⟩⟩

set_option maxRecDepth 100000 in
set_option maxHeartbeats 8000000 in
theorem replyPicks_any (A : Option Addr) (c : Nat) (xs : List RX) (hc : xs.length ≤ c) (hl : xs.length ≤ maxLen) (_hok : ∀ x ∈ xs, RIok x.r) (s : ByteArray) (_hs : s.size ≤ maxLen) (w : World) (henv : Env w) (hS : RsAt w A xs) :
    Calls Tryz.prog 7 #[.slice A xs.length c, .string s] w fun e w' => e = .returned (.bool true) ∧ Below w.heap.size w w' := by
  obtain ⟨i0, hi, hz0, hz1, hz2⟩ := info_parts infoRs
  have hmf : ∀ (fn : Fn) (first cap : Array Value) (w : World), (Instr.makeFunc fn first cap).run Tryz.prog w = .ok (.func fn first cap) w := fun _ _ _ _ => rfl
  obtain ⟨t, rfl⟩ : ∃ t : List UInt8, s = ⟨t.toArray⟩ := ⟨s.data.toList, by cases s; simp⟩
  have HB0 := Lib.hid (below_al w (.cells #[.string ⟨t.toArray⟩] 9))
  have FW := Lib.hid (rfew9_any xs A c xs.length rfl hl _ (hS.below HB0.out))
  have AL := Lib.hid (fun W (h : Below w.heap.size w W) => alive10_any W (henv.below h))
  by_cases hgo : fewRs xs = true ∧ t.length ≤ 100
  · obtain ⟨hf, ht1⟩ := hgo
    rw [hf] at FW
    unfold fewRs at hf
    rw [Bool.and_eq_true, decide_eq_true_eq, List.all_eq_true] at hf
    have h60 : xs.length ≤ 60 := hf.2
    have hsm : ∀ x ∈ xs, x.r.body.length ≤ 1000000 := fun x hx => by have := (few_sm (hf.1 x hx)).body; omega
    have IX := Lib.hid (fun W (hW : Below w.heap.size w W) (hc9 : W.cell? ⟨w.heap.size, 0, none⟩ = some (.string ⟨t.toArray⟩)) (hb9 : w.heap.size < W.heap.size) => indexFunc_any 22 (fun _ _ => rfl) w.heap.size t (picksF_any w.heap.size t) xs A c xs.length rfl (by omega) W (hS.below hW) hc9 hb9)
    have UN := Lib.hid (fun W (hW : Below w.heap.size w W) => until_any t xs A c xs.length rfl hc (by omega) hsm W (hS.below hW))
    have CT := Lib.hid (fun W (hW : Below w.heap.size w W) => count_any 9 xs A c xs.length rfl h60 W (hS.below hW))
    have TG := Lib.hid (fun W (hW : Below w.heap.size w W) => tagged_any xs A c xs.length rfl (by omega) hsm W (hS.below hW))
    have HS := Lib.hid hS
    have HC9 := Lib.hid (cell_of_row _ _ 0 _ _ _ (heap_alloc_new w (.cells #[.string ⟨t.toArray⟩] 9)))
    have HC9 : Hid ((w.alloc (.cells #[.string ⟨t.toArray⟩] 9)).cell? ⟨w.heap.size, 0, none⟩ = some (.string ⟨t.toArray⟩)) := HC9
    have HPK := Lib.hid (fun e1 e2 w' h1 h2 => pk_of (t := t) (xs := xs) (e1 := e1) (e2 := e2) (w' := w') (n := xs.length) h1 h2)
    obtain ⟨n, hn⟩ : ∃ n, xs.length = n := ⟨_, rfl⟩
    have HN := Lib.hid hn
    rw [hn] at FW IX UN CT TG HPK h60 hc ⊢
    have g1 : decide (100 < (t.length : Int)) = false := by simp; omega
    have gz : (ByteArray.mk t.toArray).size = t.length := by simp [ByteArray.size]
    clear hS henv hf hl hn _hok _hs hsm
    go_enter Tryz.func7, Tryz.ntmps7
    go_wp2_with fail
    refine FW.out.mono ?_
    rintro e w0 ⟨rfl, hw0⟩
    have h90 := HC9.out
    rw [hw0] at h90 HB0
    have hsz0 : w.heap.size < w0.heap.size := by rw [← hw0]; simp
    have HSZ0 := Lib.hid hsz0
    have HC0 := Lib.hid h90
    have IX := Lib.hid (IX.out w0 HB0.out h90 hsz0)
    clear hw0 HC9 FW hsz0
    go_wp2_with fail
    refine IX.out.mono ?_
    rintro e1 w1 ⟨h1, hb1⟩
    have HB1 := Lib.hid (below_next HB0.out hb1)
    have h91 : w1.cell? ⟨w.heap.size, 0, none⟩ = some (.string ⟨t.toArray⟩) := (hb1.cell (p := ⟨w.heap.size, 0, none⟩) HSZ0.out).trans HC0.out
    have UN := Lib.hid (UN.out w1 HB1.out)
    have H1 := Lib.hid h1
    obtain ⟨a0, rfl⟩ : ∃ a0 : Int, e1 = .returned (.int .i64 a0) := by
      rcases h1 with ⟨i, _, _, rfl⟩ | ⟨_, rfl⟩
      · exact ⟨_, rfl⟩
      · exact ⟨_, rfl⟩
    clear h1 hb1 IX h90
    go_wp2_with fail
    refine UN.out.mono ?_
    rintro e2 w2 ⟨h2, hb2⟩
    have HB2 := Lib.hid (below_next HB1.out hb2)
    obtain ⟨at_, ok, ys, zs, A1, c1, m1, A2, c2, m2, he1, rfl, hl1, hl2, hS1, hS2, hF⟩ := HPK.out _ _ _ H1.out h2
    obtain rfl : a0 = at_ := by injection he1 with h; injection h
    have HL1 := Lib.hid hl1
    have HL2 := Lib.hid hl2
    have HS1 := Lib.hid hS1
    have HS2 := Lib.hid hS2
    have HF := Lib.hid hF
    have HBR := Lib.hid (Below.refl w2.heap.size w2)
    clear he1 hl1 hl2 hS1 hS2 hF h2 hb2 UN HPK H1 h91
    go_wp2_with fail
    go_loopw [9, 10, 34] (fun v9 v i wr => ∃ (k p : Nat) (Av : Option Addr) (cv : Nat), k ≤ n ∧ p ≤ k ∧ i = .int .i64 (k : Int) ∧ v9 = .int .i64 (p : Int) ∧ v = .slice Av p cv ∧ Hid ((tgX (xs.take k)).length = p) ∧ Hid (RowR w2.heap.size wr (.slice Av p cv) (tgX (xs.take k))) ∧ Hid (Below w2.heap.size w2 wr)) (fun _ _ i _ => n - (intOf i).toNat)
    case atStart => exact ⟨0, 0, none, 0, Nat.zero_le _, Nat.le_refl _, rfl, rfl, rfl, Lib.hid rfl, Lib.hid (RowR.nil _ _), HBR⟩
    case round =>
    obtain ⟨k, p, Av, cv, hk, hpk, rfl, rfl, rfl, hX, hO, hB⟩ := hrel
    have HBW := Lib.hid (below_next HB2.out hB.out)
    by_cases hlt : k < n
    · have hlx : k < xs.length := by rw [HN.out]; exact hlt
      obtain ⟨b, off, rfl, -, c0, c1', c2', c3', c4, c5, c6, c7, c8, c9⟩ := (HS.out.below HBW.out).at hlx
      have hk0 : (0 : Int) ≤ (k : Int) := by omega
      have hk1 : (k : Int) < (n : Int) := by omega
      have hbyw := HS.out.each _ (List.getElem_mem hlx)
      have HOFF := Lib.hid (hO.out.off_low ((hbyw.below HBW.out).mono HB2.out.size))
      have HBX := Lib.hid (below_al wr (.cells (encRx xs[k]).toArray 27))
      have HBK := Lib.hid (heap_alloc_new wr (.cells (encRx xs[k]).toArray 27))
      have HBY := Lib.hid ((hbyw.below HBW.out).here)
      have HST := Lib.hid (tgX_snoc hlx)
      have hxk : Hid (xs[k] = ⟨xs[k].r, xs[k].A, xs[k].k⟩) := Lib.hid rfl
      clear hbyw
      generalize xs[k].r = r at *
      generalize xs[k].A = Ar at *
      generalize xs[k].k = kr at *
      rw [hxk.out] at HST HBX HBK
      clear hxk IX CT TG
      unfold encRx at HBX HBK
      cases hq : (r.kind == 9) with
      | false =>
        have HX2 := Lib.hid (show tgX (xs.take (k + 1)) = tgX (xs.take k) by rw [HST.out]; simp [hq])
        have HO4 := Lib.hid (hO.out.below HBX.out)
        have HB5 := Lib.hid (below_next hB.out HBX.out)
        have HX3 := Lib.hid (show (tgX (xs.take (k + 1))).length = p by rw [HX2.out]; exact hX.out)
        rw [← HX2.out] at HO4
        clear HST HOFF
        go_wp2_with fail
        go_roundw
        case rel => exact ⟨k + 1, p, Av, cv, by omega, by omega, by go_num, rfl, rfl, HX3, HO4, HB5⟩
        case measure => simp [intOf]; omega
      | true =>
        have HX2 := Lib.hid (show tgX (xs.take (k + 1)) = tgX (xs.take k) ++ [⟨r, Ar, kr⟩] by rw [HST.out]; simp [hq])
        clear HST
        go_upto_region 11 with (fail)
        clear hq c0 c1' c2' c3' c4 c5 c6 c7 c8 c9
        generalize wr.alloc (.cells [.int .i64 r.kind, .int .u32 (r.n : Int), .string ⟨r.tag.toArray⟩, .int .i64 r.status, .string ⟨r.text.toArray⟩, .int .i64 r.items, .int .u8 (r.flags : Int), .int .u32 (r.uid : Int), .int .u32 (r.size : Int), .slice Ar r.body.length kr].toArray 27) = W3 at *
        have HWW := Lib.hid (below_next HBX.out (below_al W3 (.cells (encRx ⟨r, Ar, kr⟩).toArray 27)))
        have HO4 := Lib.hid (hO.out.below HWW.out).own
        rw [hX.out] at HO4
        have HSX := Lib.hid (rsAt_one ((HBY.out.below HBX.out).here)).sl
        have HB5 := Lib.hid (below_next hB.out HWW.out)
        have HSZ := Lib.hid HB5.out.size
        have HSD := Lib.hid ((HBY.out.below HWW.out).here.sl)
        obtain ⟨x0, x1, x2, x3, x4, x5, x6, x7, x8, x9⟩ := cells10 HBK.out
        have h63 : p + 1 ≤ maxLen := by unfold maxLen; omega
        have hbyt : (p + 1) * 104 ≤ 140737488355328 := by omega
        have H63 := Lib.hid h63
        have HBYT := Lib.hid hbyt
        clear h63 hbyt
        unfold encRx at HWW HO4 HSX HB5 HSZ HSD
        go_wp2_with (at_builtin; refine wpList_append_slf _ rfl _ _ 32 rfl w2.heap.size 27 i0 _ 104 Tryz.underlying32 hi hz0 hz1 hz2 rfl (by decide) _ p _ rfl HO4.out _ [(⟨r, Ar, kr⟩ : RX)] _ rfl encRx_len HSX.out (one_flatR _) H63.out HBYT.out HSZ.out ?_; intro vv w5 hown3 hg3 hf3)
        obtain ⟨A6, c6', rfl⟩ := own_any hown3
        have RX' := Lib.hid (hO.out.snoc HWW.out (x := ⟨r, Ar, kr⟩) HSD.out HBY.out.le HOFF.out (by rw [hX.out]; exact hown3) hg3 hf3)
        rw [← HX2.out] at RX'
        have HX3 := Lib.hid (show (tgX (xs.take (k + 1))).length = p + 1 by rw [HX2.out, List.length_append, hX.out]; rfl)
        have HB6 := Lib.hid (HB5.out.grown hg3 HSZ.out (fun kk hkk => (HO4.out.lt kk hkk).1))
        clear hown3 hg3 hf3
        go_roundw
        case rel => exact ⟨k + 1, p + 1, A6, c6', by omega, by omega, by go_num, by go_num, rfl, HX3, RX', HB6⟩
        case measure => simp [intOf]; omega
    · obtain rfl : k = n := by omega
      have htk : tgX (xs.take k) = tgX xs := by rw [List.take_of_length_le (by rw [HN.out]; exact Nat.le_refl _)]
      have HRA := Lib.hid (show RsAt wr Av (tgX xs) by rw [← htk]; exact hO.out.rsAt hX.out.symm)
      have HXL := Lib.hid (show (tgX xs).length = p by rw [← htk]; exact hX.out)
      have CT := Lib.hid (CT.out wr HBW.out)
      rw [show cntK 9 xs = p by rw [← HXL.out]; exact List.countP_eq_length_filter] at CT
      have hp60 : p ≤ 60 := by omega
      clear htk hX hO
      go_wp2_with fail
      refine CT.out.mono ?_
      rintro e w4 ⟨rfl, hb4⟩
      have HB4 := Lib.hid (below_next HBW.out hb4)
      have HB42 := Lib.hid (below_next hB.out hb4)
      have HRA4 := Lib.hid (HRA.out.below hb4)
      have TG := Lib.hid (TG.out w4 HB4.out)
      clear hb4 CT
      go_wp2_with fail
      refine TG.out.mono ?_
      rintro e w5 ⟨us, A5, c5, m5, rfl, hl5, hm5, hS5, hb5⟩
      have HB5 := Lib.hid (below_next HB4.out hb5)
      have HB52 := Lib.hid (below_next HB42.out hb5)
      have SL := Lib.hid (sameList_t us (tgX xs) hm5 A5 Av c5 cv m5 p hl5 HXL.out (by have := congrArg List.length hm5; simp only [List.length_map] at this; rw [← hl5, this, HXL.out]; omega) w5 hS5 (HRA4.out.below hb5))
      clear hl5 hm5 hS5 hb5 TG
      go_wp2_with fail
      refine SL.out.mono ?_
      rintro e w6 ⟨rfl, hb6⟩
      have HB6 := Lib.hid (below_next HB5.out hb6)
      have HB62 := Lib.hid (below_next HB52.out hb6)
      have AL := Lib.hid (AL.out w6 HB6.out)
      clear hb6 SL
      unfold PkF at HF
      rcases HF.out with ⟨rfl, i, rfl, hi9, hy9, hz9⟩ | ⟨rfl, rfl, hy9, rfl⟩
      · have g2 : decide (0 ≤ (i : Int)) = true := by simp
        have g3 : decide ((i : Int) < 0) = false := by simp
        have hin : i < k := by rw [← HN.out]; exact hi9
        have hlo := fun W => rs_l A k c (i + 1) (by omega) W
        have hhi := fun W => rs_h A k c i (by omega) W
        have hse := fun x lo hi mx W => rs_at x lo hi mx W
        have hcast : ((i + 1 : Nat) : Int) = (i : Int) + 1 := by omega
        rw [hcast] at hlo
        have SA := Lib.hid (fun W (hW : Below w6.heap.size w6 W) => sameList_t ys (xs.take i) hy9 A1 A c1 c m1 i HL1.out (by rw [List.length_take, HN.out]; omega) (by
          have h := congrArg List.length hy9
          simp only [List.length_map, List.length_take] at h
          rw [← HL1.out]; omega) W (HS1.out.below (below_next HB62.out hW)) ((HS.out.below (below_next HB6.out hW)).take i))
        have SB := Lib.hid (fun W (hW : Below w6.heap.size w6 W) => sameList_t zs (xs.drop (i + 1)) hz9 A2 (offR A c (i + 1)) c2 (c - (i + 1)) m2 (k - (i + 1)) HL2.out (by rw [List.length_drop, HN.out]) (by
          have h := congrArg List.length hz9
          simp only [List.length_map, List.length_drop] at h
          rw [← HL2.out]; have := HN.out; omega) W (HS2.out.below (below_next HB62.out hW)) ((HS.out.below (below_next HB6.out hW)).drop (by rw [HN.out]; omega) (by rw [HN.out]; exact hc)))
        have hwi : IntKind.i64.wrap ((i : Int) + 1) = (i : Int) + 1 := IntWalk.i64_in _ (by omega)
        clear hy9 hz9 hcast hi9 HF
        go_wp2_with fail
        refine AL.out.mono ?_
        rintro e w7 ⟨rfl, hb7⟩
        have SA := Lib.hid (SA.out w7 hb7)
        have HB7 := Lib.hid hb7
        clear hb7 AL
        go_wp2_with fail
        refine SA.out.mono ?_
        rintro e w8 ⟨rfl, hb8⟩
        have HB8 := Lib.hid (below_next HB7.out hb8)
        have SB := Lib.hid (SB.out w8 HB8.out)
        clear hb8 SA
        go_wp2_with fail
        refine SB.out.mono ?_
        rintro e w9 ⟨rfl, hb9⟩
        have HB9 := Lib.hid (below_next HB6.out (below_next HB8.out hb9))
        clear hb9 SB
        go_wp2_with fail
        go_ret
        exact ⟨rfl, HB9.out⟩
      · have SA := Lib.hid (fun W (hW : Below w6.heap.size w6 W) => sameList_t ys xs hy9 A1 A c1 c m1 k HL1.out HN.out (by
          have h := congrArg List.length hy9
          simp only [List.length_map] at h
          rw [← HL1.out, h, HN.out]; omega) W (HS1.out.below (below_next HB62.out hW)) (HS.out.below (below_next HB6.out hW)))
        clear hy9 HF
        go_wp2_with fail
        refine AL.out.mono ?_
        rintro e w7 ⟨rfl, hb7⟩
        have SA := Lib.hid (SA.out w7 hb7)
        have HB7 := Lib.hid hb7
        clear hb7 AL
        go_wp2_with fail
        refine SA.out.mono ?_
        rintro e w8 ⟨rfl, hb8⟩
        have HB8 := Lib.hid (below_next HB6.out (below_next HB7.out hb8))
        clear hb8 SA
        go_wp2_with fail
        go_ret
        exact ⟨rfl, HB8.out⟩
  · have AL := Lib.hid (AL.out _ HB0.out)
    have gz : (ByteArray.mk t.toArray).size = t.length := by simp [ByteArray.size]
    have HB0' := HB0
    cases hf : fewRs xs with
    | false =>
      rw [hf] at FW
      clear hS henv hf hi hz0 hz1 hz2 hgo
      generalize xs.length = n at *
      go_enter Tryz.func7, Tryz.ntmps7
      go_wp2_with fail
      refine FW.out.mono ?_
      rintro e w1 ⟨rfl, hw⟩
      subst hw
      go_wp2_with fail
      refine AL.out.mono ?_
      rintro e w2 ⟨rfl, hb⟩
      have HB2 := Lib.hid (below_next HB0.out hb)
      clear hb
      go_wp2_with fail
      go_ret
      exact ⟨rfl, HB2.out⟩
    | true =>
      rw [hf] at FW
      have g1 : decide (100 < (t.length : Int)) = true := by
        have : ¬ t.length ≤ 100 := fun h => hgo ⟨hf, h⟩
        simp
        omega
      clear hS henv hf hi hz0 hz1 hz2 hgo
      generalize xs.length = n at *
      go_enter Tryz.func7, Tryz.ntmps7
      go_wp2_with fail
      refine FW.out.mono ?_
      rintro e w1 ⟨rfl, hw⟩
      subst hw
      go_wp2_with fail
      refine AL.out.mono ?_
      rintro e w2 ⟨rfl, hb⟩
      have HB2 := Lib.hid (below_next HB0.out hb)
      clear hb
      go_wp2_with fail
      go_ret
      exact ⟨rfl, HB2.out⟩
end Go.Proofs.YtpoejnajnaolpaaGreatDoor
