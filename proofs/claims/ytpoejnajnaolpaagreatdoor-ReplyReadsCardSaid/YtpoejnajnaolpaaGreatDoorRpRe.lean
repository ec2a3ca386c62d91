/- reply: the readers of a message's items. -/
import Derived.Test.YtpoejnajnaolpaaGreatDoorRpSt
import Derived.Test.YtpoejnajnaolpaaGreatDoorRpRun2
import Derived.Test.YtpoejnajnaolpaaGreatDoorGn
import Derived.Test.YtpoejnajnaolpaaGreatDoorGm
namespace Go.Proofs.YtpoejnajnaolpaaGreatDoor
open Go.RowKit

/-- What a reader of an item returns. -/
def RdP (bb bp : Nat) (o : Option (List UInt8 × RI)) (e : Ending) (w' : World) : Prop :=
  (∃ l r, o = some (l, r) ∧ e = .returned (.bool true) ∧ ∃ A c Ab kb, Hid (Rp bb bp A c l r Ab kb false w')) ∨
  (o = none ∧ e = .returned (.bool false) ∧ ∃ A c l r Ab kb, Hid (Rp bb bp A c l r Ab kb false w'))

set_option maxRecDepth 100000 in
set_option maxHeartbeats 1000000 in
theorem uid_st (bb bp c kb : Nat) (A Ab : Option Addr) (l : List UInt8) (r : RI) (hl : l.length ≤ 1000000) (w : World) (henv : ∀ W, Rk bb bp w W → Env W) (h : Rp bb bp A c l r Ab kb false w) :
    Calls Tryz.prog 107 #[.pointer (some ⟨bp, 0, none⟩)] w fun e w' => RdP bb bp (readK 1 l r) e w' ∧ Rk bb bp w w' := by
  have DC := Lib.hid (rdec_any 8 (.inr (.inl rfl)) bb bp c kb A Ab l r false hl w henv h)
  have HX := Lib.hid (show ∀ o, numOf (l.takeWhile isDig) = o → readK 1 l r = o.map fun u => (l.drop (l.takeWhile isDig).length, rpU 8 r u) from fun o ho => by rw [← ho]; rfl)
  generalize readK 1 l r = nx at *
  clear henv h
  generalize l.drop (l.takeWhile isDig).length = l2 at *
  obtain ⟨o, ho⟩ : ∃ o, numOf (l.takeWhile isDig) = o := ⟨_, rfl⟩
  have HX := Lib.hid (HX.out o ho)
  rw [ho] at DC
  clear ho
  go_enter Tryz.func107, Tryz.ntmps107
  go_wp2_with fail
  refine DC.out.mono ?_
  rintro e w1 ⟨rfl, ⟨A1, c1, h1⟩, k1⟩
  have K1 := Lib.hid k1
  clear k1 DC
  cases o with
  | none =>
    go_wp2_with fail
    go_ret
    exact ⟨.inr ⟨HX.out, rfl, _, _, _, _, _, _, h1⟩, K1.out⟩
  | some u =>
    go_wp2_with fail
    go_ret
    exact ⟨.inl ⟨_, _, HX.out, rfl, _, _, _, _, h1⟩, K1.out⟩
set_option maxRecDepth 100000 in
set_option maxHeartbeats 1000000 in
theorem size_st (bb bp c kb : Nat) (A Ab : Option Addr) (l : List UInt8) (r : RI) (hl : l.length ≤ 1000000) (w : World) (henv : ∀ W, Rk bb bp w W → Env W) (h : Rp bb bp A c l r Ab kb false w) :
    Calls Tryz.prog 108 #[.pointer (some ⟨bp, 0, none⟩)] w fun e w' => RdP bb bp (readK 2 l r) e w' ∧ Rk bb bp w w' := by
  have DC := Lib.hid (rdec_any 9 (.inr (.inr rfl)) bb bp c kb A Ab l r false hl w henv h)
  have HX := Lib.hid (show ∀ o, numOf (l.takeWhile isDig) = o → readK 2 l r = o.map fun u => (l.drop (l.takeWhile isDig).length, rpU 9 r u) from fun o ho => by rw [← ho]; rfl)
  generalize readK 2 l r = nx at *
  clear henv h
  generalize l.drop (l.takeWhile isDig).length = l2 at *
  obtain ⟨o, ho⟩ : ∃ o, numOf (l.takeWhile isDig) = o := ⟨_, rfl⟩
  have HX := Lib.hid (HX.out o ho)
  rw [ho] at DC
  clear ho
  go_enter Tryz.func108, Tryz.ntmps108
  go_wp2_with fail
  refine DC.out.mono ?_
  rintro e w1 ⟨rfl, ⟨A1, c1, h1⟩, k1⟩
  have K1 := Lib.hid k1
  clear k1 DC
  cases o with
  | none =>
    go_wp2_with fail
    go_ret
    exact ⟨.inr ⟨HX.out, rfl, _, _, _, _, _, _, h1⟩, K1.out⟩
  | some u =>
    go_wp2_with fail
    go_ret
    exact ⟨.inl ⟨_, _, HX.out, rfl, _, _, _, _, h1⟩, K1.out⟩

theorem own_rk {bb bp n : Nat} {T : TypeId} {v : Value} {xs : List Value} {W W' : World} (h : W.ownsRow (bp + 1) T 1 v n xs) (hk : Rk bb bp W W') (hlt : bb < bp) : W'.ownsRow (bp + 1) T 1 v n xs := by
  refine ⟨h.1, ?_⟩
  rcases h.2 with h1 | ⟨g, cap, cur, h1, h2, h3, h4⟩
  · exact .inl h1
  · exact .inr ⟨g, cap, cur, h1, h2, hk.at_ h3 (by omega) (by omega), h4⟩
theorem scan_zero (l : List UInt8) : scanL l 0 = litO l := by
  unfold scanL
  rw [if_pos (by decide)]
  simp
theorem lit_le {l : List UInt8} {t : List UInt8 × Nat} (h : litO l = some t) : t.2 ≤ l.length := by
  unfold litO at h
  split at h
  · split at h
    · rename_i hc
      obtain rfl := Option.some.inj h
      exact hc.2.2.2
    · cases h
  · cases h

set_option maxRecDepth 100000 in
set_option maxHeartbeats 4000000 in
theorem body_st (bb bp c kb : Nat) (A Ab : Option Addr) (l : List UInt8) (r : RI) (hl : l.length ≤ 1000000) (w : World) (henv : ∀ W, Rk bb bp w W → Env W) (h : Rp bb bp A c l r Ab kb false w) :
    Calls Tryz.prog 109 #[.pointer (some ⟨bp, 0, none⟩)] w fun e w' => RdP bb bp (readK 3 l r) e w' ∧ Rk bb bp w w' := by
  have c0 := h.cells.1
  have R0 := Lib.hid (rest0_any bb bp c kb A Ab l l.length r false rfl w h)
  have SC := Lib.hid (fun W (hw : Rp bb bp A c l r Ab kb false W) (hk : Rk bb bp w W) => scanLiteral_any bb c A l 0 (by omega) (by omega) hl W (henv W hk) hw.lies)
  rw [scan_zero] at SC
  have RN := Lib.hid (fun W (hw : Rp bb bp A c l r Ab kb false W) m (hm : m ≤ l.length) => rest_any bb bp c kb m l.length A Ab l r false hm rfl W hw)
  have R2 := Lib.hid (fun W (hw : Rp bb bp A c l r Ab kb false W) => rest0_any bb bp c kb A Ab l l.length r false rfl W hw)
  have HX := Lib.hid (show ∀ o, litO l = o → readK 3 l r = o.map fun t => (l.drop t.2, { r with body := t.1 }) from fun o ho => by rw [← ho]; rfl)
  have HL := Lib.hid (fun t (h : litO l = some t) => lit_le h)
  have HLT := Lib.hid h.lt
  generalize readK 3 l r = nx at *
  obtain ⟨o, ho⟩ : ∃ o, litO l = o := ⟨_, rfl⟩
  have HX := Lib.hid (HX.out o ho)
  have HL := Lib.hid (fun t (h : o = some t) => HL.out t (ho.trans h))
  rw [ho] at SC
  clear ho henv h
  have HLN := Lib.hid (rfl : l.length = l.length)
  generalize l.length = n at *
  go_enter Tryz.func109, Tryz.ntmps109
  go_wp2_with fail
  refine R0.out.mono ?_
  rintro e w1 ⟨rfl, h1, k1⟩
  have K1 := Lib.hid k1
  have SC := Lib.hid (SC.out w1 h1.out k1)
  clear k1 R0 c0
  go_wp2_with fail
  refine SC.out.mono ?_
  rintro e w2 ⟨hp, hb2⟩
  have h2 := Lib.hid (h1.out.grow hb2)
  have K2 := Lib.hid (K1.out.trans (Rk.of_below hb2))
  have c2 := h2.out.cells.1
  have hz1 := h1.out.here.2
  unfold SPost at hp
  rcases hp with ⟨P, m, g, c', rfl, rfl, hown⟩ | ⟨rfl, rfl⟩
  · have HO := Lib.hid (own_base9 hown (Nat.succ_le_of_lt hz1))
    have RN := Lib.hid (RN.out w2 h2.out m (HL.out (P, m) rfl))
    have HX := Lib.hid HX.out
    clear hown SC hb2 R2 HL hz1
    obtain ⟨pn, hpn⟩ : ∃ pn, P.length = pn := ⟨_, rfl⟩
    have HPN := Lib.hid hpn
    rw [hpn] at HO
    rw [hpn]
    clear hpn
    go_wp2_with fail
    refine RN.out.mono ?_
    rintro e w3 ⟨rfl, h3, k3⟩
    have K3 := Lib.hid (K2.out.trans k3)
    have HO3 := Lib.hid (own_rk HO.out k3 HLT.out)
    have f1 := Joins.unfrozen_of_block h3.out.blk 10
    have cc : w3.cell? ⟨bp, 10, none⟩ = some (.slice Ab r.body.length kb) := cell_of_row _ _ 10 _ _ _ h3.out.blk
    have HP := Lib.hid (h3.out.put (i := 10) (v := .slice (some ⟨g, 0, none⟩) pn c') (r' := { r with body := P }) (Ab' := some ⟨g, 0, none⟩) (kb' := c') (wh' := false) (by rw [Joins.block_setCell h3.out.blk, ← HPN.out]; rfl) (by show w3.ownsRow _ _ _ (.slice _ P.length _) P.length _; rw [HPN.out]; exact HO3.out))
    have K4 := Lib.hid (K3.out.trans (Rk.of_bp (bb := bb) (grown_setCell w3 bp 10 (.slice (some ⟨g, 0, none⟩) pn c'))))
    clear k3 RN c2
    go_wp2_with fail
    go_ret
    exact ⟨.inl ⟨_, _, HX.out, rfl, _, _, _, _, HP⟩, K4.out⟩
  · have R2 := Lib.hid (R2.out w2 h2.out)
    clear RN SC hb2 HL hz1
    go_wp2_with fail
    refine R2.out.mono ?_
    rintro e w3 ⟨rfl, h3, k3⟩
    have K3 := Lib.hid (K2.out.trans k3)
    have f1 := Joins.unfrozen_of_block h3.out.blk 10
    have cc : w3.cell? ⟨bp, 10, none⟩ = some (.slice Ab r.body.length kb) := cell_of_row _ _ 10 _ _ _ h3.out.blk
    have HP := Lib.hid (h3.out.put (i := 10) (v := .slice none 0 0) (r' := { r with body := [] }) (Ab' := none) (kb' := 0) (wh' := false) (by rw [Joins.block_setCell h3.out.blk]; rfl) (World.ownsRow_nil _ _ _ _))
    have K4 := Lib.hid (K3.out.trans (Rk.of_bp (bb := bb) (grown_setCell w3 bp 10 (.slice none 0 0))))
    clear k3 R2 c2
    go_wp2_with fail
    go_ret
    exact ⟨.inr ⟨HX.out, rfl, _, _, _, _, _, _, HP⟩, K4.out⟩

set_option maxRecDepth 100000 in
theorem no41_any (x : UInt8) (W : World) : Calls Tryz.prog 117 #[.int .u8 (x.toNat : Int)] W fun e w' => e = .returned (.bool (x != 41)) ∧ Below W.heap.size W w' := by
  have R := Lib.hid (show ((x.toNat : Int) != 41) = (x != 41) by
    by_cases h : x = 41
    · subst h; rfl
    · have h1 : (x != 41) = true := by rw [bne_iff_ne]; exact h
      rw [h1, bne_iff_ne]
      intro e
      exact h (UInt8.toNat_inj.1 (by show x.toNat = 41; omega)))
  rw [← R.out]
  clear R
  generalize x.toNat = n at *
  go_enter Tryz.func117, Tryz.ntmps117
  go_wp2_with fail
  go_ret
  exact ⟨rfl, Below.refl _ _⟩
set_option maxRecDepth 100000 in
set_option maxHeartbeats 4000000 in
theorem flags_st (bb bp c kb : Nat) (A Ab : Option Addr) (l : List UInt8) (r : RI) (hl : l.length ≤ 1000000) (w : World) (h : Rp bb bp A c l r Ab kb false w) :
    Calls Tryz.prog 106 #[.pointer (some ⟨bp, 0, none⟩)] w fun e w' => RdP bb bp (readK 0 l r) e w' ∧ Rk bb bp w w' := by
  have SP := Lib.hid (span_any 117 (· != 41) no41_any (fun _ _ => rfl) bb bp c kb A Ab l r false hl w h)
  have hlen : (l.takeWhile (· != 41)).length ≤ 1000000 := Nat.le_trans (List.takeWhile_sublist _).length_le hl
  have HX := Lib.hid (show ∀ o, parseF (l.takeWhile (· != 41) ++ [41]) = o → readK 0 l r = match o with
    | some f => if listL f = l.takeWhile (· != 41) ++ [41] ∧ [41].isPrefixOf (l.drop (l.takeWhile (· != 41)).length) = true then some ((l.drop (l.takeWhile (· != 41)).length).drop 1, { r with flags := f }) else none
    | none => none from fun o ho => by rw [← ho]; rfl)
  generalize readK 0 l r = nx at *
  generalize l.drop (l.takeWhile (· != 41)).length = l2 at *
  generalize l.takeWhile (· != 41) = q at *
  have hcat : ByteArray.mk q.toArray ++ ByteArray.mk #[41] = ByteArray.mk (q ++ [41]).toArray := by
    apply ByteArray.ext
    simp
  have hqz : (ByteArray.mk q.toArray).size ≤ 1000000 := by simpa [ByteArray.size] using hlen
  obtain ⟨li, hli⟩ : ∃ li, q ++ [41] = li := ⟨_, rfl⟩
  have HPA := Lib.hid (fun W A' c' r2 (hw : Rp bb bp A' c' l2 r2 Ab kb false W) => pass_any bb bp c' kb A' Ab l2 [41] r2 false W hw)
  have FP := Lib.hid (fun W => fparse_any ⟨li.toArray⟩ (by rw [← hli]; simp [ByteArray.size]; omega) W)
  rw [show (ByteArray.mk li.toArray).data.toList = li from rfl] at FP
  rw [hli] at hcat HX
  obtain ⟨o, ho⟩ : ∃ o, parseF li = o := ⟨_, rfl⟩
  have HX := Lib.hid (HX.out o ho)
  rw [ho] at FP
  have HLT := Lib.hid (fun f (hf : o = some f) => parse_lt (ho.trans hf))
  clear ho h hli
  go_enter Tryz.func106, Tryz.ntmps106
  go_wp2_with fail
  refine SP.out.mono ?_
  rintro e w1 ⟨rfl, ⟨A1, c1, h1⟩, k1⟩
  have K1 := Lib.hid k1
  clear k1 SP
  go_wp2_with fail
  refine (FP.out w1).mono ?_
  rintro e w2 ⟨rfl, hb2⟩
  have h2 := Lib.hid (h1.out.grow hb2)
  have K2 := Lib.hid (K1.out.trans (Rk.of_below hb2))
  have f1 := Joins.unfrozen_of_block h2.out.blk 7
  have cc : w2.cell? ⟨bp, 7, none⟩ = some (.int .u8 (r.flags : Int)) := cell_of_row _ _ 7 _ _ _ h2.out.blk
  clear hb2 FP h1 hcat hqz hlen
  cases o with
  | none =>
    have HP := Lib.hid (h2.out.put (i := 7) (v := .int .u8 0) (r' := { r with flags := 0 }) (Ab' := Ab) (kb' := kb) (wh' := false) (by rw [Joins.block_setCell h2.out.blk]; rfl) h2.out.body)
    have K3 := Lib.hid (K2.out.trans (Rk.of_bp (bb := bb) (grown_setCell w2 bp 7 (.int .u8 0))))
    clear HPA HLT
    go_wp2_with fail
    go_ret
    exact ⟨.inr ⟨HX.out, rfl, _, _, _, _, _, _, HP⟩, K3.out⟩
  | some f =>
    have HP := Lib.hid (h2.out.put (i := 7) (v := .int .u8 (f : Int)) (r' := { r with flags := f }) (Ab' := Ab) (kb' := kb) (wh' := false) (by rw [Joins.block_setCell h2.out.blk]; rfl) h2.out.body)
    have K3 := Lib.hid (K2.out.trans (Rk.of_bp (bb := bb) (grown_setCell w2 bp 7 (.int .u8 (f : Int)))))
    have FL := Lib.hid (fun W => flist_any f (by have := HLT.out f rfl; omega) W)
    have HX : Hid (nx = if listL f = li ∧ [41].isPrefixOf l2 = true then some (l2.drop 1, { r with flags := f }) else none) := Lib.hid HX.out
    clear HLT
    generalize hr2 : ({ r with flags := f } : RI) = r2 at *
    clear hr2
    generalize listL f = L at *
    obtain ⟨w3, hw3⟩ : ∃ w3, w2.setCell ⟨bp, 7, none⟩ (.int .u8 (f : Int)) = w3 := ⟨_, rfl⟩
    rw [hw3] at HP K3
    go_upto_region 4 with (fail)
    clear hw3 cc f1 h2
    cases hq : (L == li) with
    | false =>
      have HN := Lib.hid (HX.out.trans (if_neg (fun hh => by rw [hh.1, beq_self_eq_true] at hq; cases hq)))
      go_wp2_with fail
      refine (FL.out w3).mono ?_
      rintro e w4 ⟨rfl, hb4⟩
      have h4 := Lib.hid (HP.out.grow hb4)
      have K4 := Lib.hid (K3.out.trans (Rk.of_below hb4))
      clear hb4 FL
      go_wp2_with fail
      go_ret
      exact ⟨.inr ⟨HN.out, rfl, _, _, _, _, _, _, h4⟩, K4.out⟩
    | true =>
      obtain rfl := beq_iff_eq.1 hq
      clear hq
      go_wp2_with fail
      refine (FL.out w3).mono ?_
      rintro e w4 ⟨rfl, hb4⟩
      have h4 := Lib.hid (HP.out.grow hb4)
      have K4 := Lib.hid (K3.out.trans (Rk.of_below hb4))
      have PA := Lib.hid (HPA.out w4 _ _ _ h4.out)
      clear hb4 FL HPA
      go_wp2_with fail
      refine PA.out.mono ?_
      rintro e w5 ⟨rfl, ⟨A5, c5, h5⟩, k5⟩
      have K5 := Lib.hid (K4.out.trans k5)
      clear k5 PA
      cases q0 : [41].isPrefixOf l2 with
      | true =>
        have HN := Lib.hid (HX.out.trans (if_pos ⟨by first | rfl | trivial, q0⟩))
        rw [cutW_t q0] at h5
        clear q0
        go_wp2_with fail
        go_ret
        exact ⟨.inl ⟨_, _, HN.out, rfl, _, _, _, _, h5⟩, K5.out⟩
      | false =>
        have HN := Lib.hid (HX.out.trans (if_neg (fun hh => by rw [q0] at hh; cases hh.2)))
        clear q0
        go_wp2_with fail
        go_ret
        exact ⟨.inr ⟨HN.out, rfl, _, _, _, _, _, _, h5⟩, K5.out⟩
end Go.Proofs.YtpoejnajnaolpaaGreatDoor
