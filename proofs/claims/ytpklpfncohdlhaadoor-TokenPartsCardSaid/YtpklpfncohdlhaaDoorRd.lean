/- token: the reader in memory; kindOf; a token of one byte; a word. -/
import Derived.Test.YtpklpfncohdlhaaDoorTkMath
import Derived.Test.YtpklpfncohdlhaaDoorKeeps
import Derived.Test.YtpklpfncohdlhaaDoorCur
namespace Go.Proofs.YtpklpfncohdlhaaDoor
open Go.RowKit

/-- A reader in block bs over the bytes l. -/
structure Rd (bs : Nat) (A : Option Addr) (c : Nat) (l : List UInt8) (at_ : Int) (w : World) : Prop where
  blk : w.heap[bs]? = some (.cells #[.slice A l.length c, .int .i64 at_] 44 (0, 0))
  lies : ByAt bs w A c l

section
variable {bs c : Nat} {A : Option Addr} {l : List UInt8} {at_ : Int} {w w' : World}
theorem Rd.grow (h : Rd bs A c l at_ w) (hb : Below w.heap.size w w') : Rd bs A c l at_ w' :=
  ⟨(hb.block bs (Array.getElem?_eq_some_iff.1 h.blk).1).trans h.blk, h.lies.grow hb⟩
theorem Rd.c0 (h : Rd bs A c l at_ w) : w.cell? ⟨bs, 0, none⟩ = some (.slice A l.length c) := cell_of_row w bs 0 _ _ _ h.blk
theorem Rd.c1 (h : Rd bs A c l at_ w) : w.cell? ⟨bs, 1, none⟩ = some (.int .i64 at_) := cell_of_row w bs 1 _ _ _ h.blk
theorem Rd.lt (h : Rd bs A c l at_ w) : bs < w.heap.size := (Array.getElem?_eq_some_iff.1 h.blk).1
theorem Rd.set (h : Rd bs A c l at_ w) (x : Int) : Rd bs A c l x (w.setCell ⟨bs, 1, none⟩ (.int .i64 x)) := by
  refine ⟨?_, h.lies.below ((Below.refl bs w).setCell (p := ⟨bs, 1, none⟩) (Nat.le_refl _) _)⟩
  rw [Joins.block_setCell h.blk]
  rfl
theorem Rd.cast {x y : Int} (h : Rd bs A c l x w) (e : x = y) : Rd bs A c l y w := e ▸ h
/-- What another block's growth leaves. -/
theorem Rd.other {r : Nat} (h : Rd bs A c l at_ w) (hg : w.grownBy w' (some r)) (hr : bs < r) : Rd bs A c l at_ w' := by
  refine ⟨(hg.block bs h.lt (fun e => by injection e; omega)).trans h.blk, h.lies.le, ?_⟩
  rcases h.lies.lies with h0 | ⟨b, off, hA, hlt, hw, hc⟩
  · exact .inl h0
  · refine .inr ⟨b, off, hA, hlt, Nat.lt_of_lt_of_le hw hg.size, fun j hj => ?_⟩
    have e := hg.block b hw (fun e => by injection e; omega)
    unfold World.cell? at hc ⊢
    rw [e]
    exact hc j hj
theorem Rd.byte (h : Rd bs A c l at_ w) {k : Nat} (hk : k < l.length) : ∃ b off, A = some ⟨b, off, none⟩ ∧ b < bs ∧ w.cell? ⟨b, off + k, none⟩ = some (.int .u8 (l[k].toNat : Int)) := by
  obtain ⟨b, off, he, hb, _, hc⟩ := h.lies.cell hk
  exact ⟨b, off, he, hb, hc⟩
theorem rd_new {B : Nat} (hA : ByAt B w A c l) (x : Int) : Rd w.heap.size A c l x (w.alloc (.cells #[.slice A l.length c, .int .i64 x] 44)) :=
  ⟨heap_alloc_new _ _, hA.here.below ((Below.refl _ _).alloc (Nat.le_refl _) _)⟩
end

theorem quietS {f : FuncId} {args : Array Value} {w : World} {n : Nat} {v : Value} (h : Calls Tryd.prog f args (w.drewN n) fun e w' => e = .returned v ∧ w.drewN n = w') :
    Calls Tryd.prog f args (w.drewN n) fun e w' => e = .returned v ∧ ∃ m, w' = w.drewN m := Calls.quiet_of_same (h.mono fun _ _ ⟨a, b⟩ => ⟨a, b.symm⟩)

set_option maxRecDepth 100000 in
theorem kindOf_any (n : Nat) (w : World) (h1 : n ≤ 255) :
    Calls Tryd.prog 20 #[.int .u8 (n : Int)] w fun e w' => e = .returned (.int .i64 (kindN n : Int)) ∧ w = w' := by
  by_cases hs : n = 32 ∨ n = 40 ∨ n = 41 ∨ n = 34 ∨ n = 123
  · rcases hs with rfl | rfl | rfl | rfl | rfl
    all_goals
      go_enter Tryd.func20, Tryd.ntmps20
      go_wp2
      go_ret
      exact ⟨rfl, rfl⟩
  · have h2 : ¬ n = 32 := by omega
    have h3 : ¬ n = 40 := by omega
    have h4 : ¬ n = 41 := by omega
    have h5 : ¬ n = 34 := by omega
    have h6 : ¬ n = 123 := by omega
    clear hs
    by_cases ha : 33 ≤ n
    · by_cases hb : n ≤ 126
      · have R := Lib.hid (show kindN n = 4 by unfold kindN; rw [if_neg h2, if_neg h3, if_neg h4, if_neg h5, if_neg h6, if_pos ⟨ha, hb⟩])
        have d1 : decide ((33 : Int) ≤ (n : Int)) = true := by simp; omega
        have d2 : decide ((n : Int) ≤ 126) = true := by simp; omega
        go_enter Tryd.func20, Tryd.ntmps20
        go_wp2
        go_ret
        exact ⟨ret_int (by rw [R.out]; rfl), rfl⟩
      · have R := Lib.hid (show kindN n = 0 by unfold kindN; rw [if_neg h2, if_neg h3, if_neg h4, if_neg h5, if_neg h6, if_neg (by omega)])
        have d1 : decide ((33 : Int) ≤ (n : Int)) = true := by simp; omega
        have d2 : decide ((n : Int) ≤ 126) = false := by simp; omega
        go_enter Tryd.func20, Tryd.ntmps20
        go_wp2
        go_ret
        exact ⟨ret_int (by rw [R.out]; rfl), rfl⟩
    · have R := Lib.hid (show kindN n = 0 by unfold kindN; rw [if_neg h2, if_neg h3, if_neg h4, if_neg h5, if_neg h6, if_neg (by omega)])
      have d1 : decide ((33 : Int) ≤ (n : Int)) = false := by simp; omega
      go_enter Tryd.func20, Tryd.ntmps20
      go_wp2
      go_ret
      exact ⟨ret_int (by rw [R.out]; rfl), rfl⟩

set_option maxRecDepth 100000 in
theorem mark_any (bs c : Nat) (A : Option Addr) (l : List UInt8) (k : Nat) (_hk : k ≤ 1000000000) (w : World) (h : Rd bs A c l (k : Int) w) :
    Calls Tryd.prog 30 #[.pointer (some ⟨bs, 0, none⟩)] w fun e w' => e = .returned (.tuple #[.string ⟨#[]⟩, .bool true]) ∧ Hid (Rd bs A c l ((k + 1 : Nat) : Int) w') ∧ w.grownBy w' (some bs) := by
  have c1 := h.c1
  have f1 := Joins.unfrozen_of_block h.blk 1
  have HS := Lib.hid ((h.set ((k : Int) + 1)).cast (y := ((k + 1 : Nat) : Int)) (by omega))
  have HG := Lib.hid (grown_set (World.grownBy.refl w (some bs)) 1 (.int .i64 ((k : Int) + 1)))
  clear h
  go_enter Tryd.func30, Tryd.ntmps30
  go_wp2_with fail
  refine bodyPost_ret (v := .tuple #[.string ⟨#[]⟩, .bool true]) (by simp [results, Tryd.results30, go_sem]) rfl ⟨rfl, HS.out, HG.out⟩

theorem convSW (B : Nat) (w : World) (A : Option Addr) (c n : Nat) (l : List UInt8) (h : ByAt B w A c l) (hn : l.length = n) (d : Nat) :
    (convert 22 9 (.slice A n c)).run Tryd.prog (w.drewN d) = .ok (.string ⟨l.toArray⟩) (w.drewN d) :=
  convS B (w.drewN d) A c n l ⟨h.le, h.lies⟩ hn

theorem dig_all_snoc_w {l : List UInt8} {k p : Nat} (hlt : p < l.length) (hkp : k ≤ p) (ha : ((l.drop k).take (p - k)).all wordC = true) (hd : wordC l[p] = true) : ((l.drop k).take (p + 1 - k)).all wordC = true := by
  have hh : p - k < (l.drop k).length := by rw [List.length_drop]; omega
  rw [show p + 1 - k = (p - k) + 1 by omega, List.take_succ_eq_append_getElem hh, List.all_append, ha]
  have e : (l.drop k)[p - k] = l[p] := by
    rw [List.getElem_drop]
    congr 1
    omega
  rw [e]
  simp [hd]

set_option maxRecDepth 100000 in
set_option maxHeartbeats 2000000 in
theorem word_any (bs c : Nat) (A : Option Addr) (l : List UInt8) (k : Nat) (hk : k ≤ l.length) (hl : l.length ≤ 1000000) (w : World) (h : Rd bs A c l (k : Int) w) :
    Calls Tryd.prog 31 #[.pointer (some ⟨bs, 0, none⟩)] w fun e w' => e = .returned (.tuple #[.string ⟨(wordR (l.drop k)).toArray⟩, .bool true]) ∧ Hid (Rd bs A c l ((k + (wordR (l.drop k)).length : Nat) : Int) w') ∧ w.grownBy w' (some bs) := by
  have KO := Lib.hid (fun n W h => kindOf_any n W h)
  have hle := h.lies.le
  have c1 := h.c1
  have HH := Lib.hid h
  have hse := fun x lo hi mx W => sliceAt_eq x lo hi mx W
  obtain ⟨q, hq⟩ : ∃ q, wordR (l.drop k) = q := ⟨_, rfl⟩
  rw [hq]
  have HQ := Lib.hid hq
  clear hq h
  go_enter Tryd.func31, Tryd.ntmps31
  go_wp2_with fail
  go_loopg [9] l.length (fun gg _ wr => ∃ p : Nat, k ≤ p ∧ p ≤ l.length ∧ l.length - p ≤ gg ∧ Hid (((l.drop k).take (p - k)).all wordC = true) ∧ Hid (Rd bs A c l (p : Int) wr) ∧ Hid (w.grownBy wr (some bs)))
  case atStart => exact ⟨k, Nat.le_refl _, hk, by omega, by rw [Nat.sub_self]; rfl, HH, World.grownBy.refl _ _⟩
  case round =>
    obtain ⟨p, hkp, hpl, hgg, hD, hR, hG⟩ := hrel
    have c0 := hR.out.c0
    have c1' := hR.out.c1
    have f1 := Joins.unfrozen_of_block hR.out.blk 1
    clear c1
    have fin : (∀ h : p < l.length, wordC l[p] = false) → Hid (q.length = p - k) ∧ Hid (∀ d, (convert 22 9 (.slice (offA A c k) (p - k) (c - k))).run Tryd.prog (wr.drewN d) = .ok (.string ⟨q.toArray⟩) (wr.drewN d)) := fun hend => by
      have hqe : q = (l.drop k).take (p - k) := by
        rw [← HQ.out]
        refine takeWhile_at (l.drop k) (p - k) (by rw [List.length_drop]; omega) hD.out (fun h => ?_)
        rw [List.length_drop] at h
        rw [List.getElem_drop]
        have := hend (by omega)
        simpa [show k + (p - k) = p by omega] using this
      have hql : q.length = p - k := by rw [hqe, List.length_take, List.length_drop]; omega
      have hT := hR.out.lies.cut (lo := k) (hi := p) hkp hpl
      rw [List.drop_take, ← hqe] at hT
      exact ⟨hql, convSW bs wr _ (c - k) (p - k) q hT hql⟩
    have fin := Lib.hid fin
    have hsl := fun W => slice_lh A l.length c k p hkp (by omega) W
    by_cases hlt : p < l.length
    · obtain ⟨b, off, rfl, hb, hc⟩ := hR.out.byte hlt
      have hn : l[p].toNat ≤ 255 := by have := l[p].toNat_lt; omega
      have d1 : decide ((p : Int) < (l.length : Int)) = true := by simp; omega
      by_cases hw : kindN l[p].toNat = 4
      · have HN := Lib.hid (dig_all_snoc_w hlt hkp hD.out (kindN_word.1 hw))
        have K := fun W => KO.out l[p].toNat W hn
        rw [hw] at K
        have K := Lib.hid K
        have HS := Lib.hid (fun d => ((hR.out.grow (drewN_below wr d)).set ((p : Int) + 1)).cast (y := ((p + 1 : Nat) : Int)) (by omega))
        have HG := Lib.hid (fun d => grown_set (hG.out.trans (grown_of_below (drewN_below wr d))) 1 (.int .i64 ((p : Int) + 1)))
        clear hw fin hR hG
        generalize l[p].toNat = x at *
        go_wp2_with fail
        go_quiet ((go_at_call 20; refine quietS (K.out _)))
        go_wp2_with fail
        go_roundg (l.length - (p + 1))
        case measure => omega
        case rel => exact ⟨p + 1, by omega, by omega, by omega, HN, HS.out _, HG.out _⟩
      · have hf := fin.out (fun _ => by
          rw [← Bool.not_eq_true]
          exact fun e => hw (kindN_word.2 e))
        obtain ⟨hq1, hcv⟩ := hf
        have hcv := hcv.out
        have K := fun W => KO.out l[p].toNat W hn
        have hw' : ((kindN l[p].toNat : Int) == 4) = false := by simp; omega
        have K := Lib.hid K
        clear fin
        generalize l[p].toNat = x at *
        generalize kindN x = y at *
        go_wp2_with fail
        go_quiet ((go_at_call 20; refine quietS (K.out _)))
        go_wp2_with fail
        go_quiet (fail)
        go_wp2_with fail
        refine bodyPost_ret (v := .tuple #[.string ⟨q.toArray⟩, .bool true]) (by simp [results, Tryd.results31, go_sem]) rfl ⟨rfl, ?_, ?_⟩
        · refine (hR.out.grow (below_next (drewN_below wr _) (drewN_below _ _))).cast ?_
          rw [hq1.out]
          omega
        · exact hG.out.trans (grown_of_below (below_next (drewN_below wr _) (drewN_below _ _)))
    · have d1 : decide ((p : Int) < (l.length : Int)) = false := by simp; omega
      obtain ⟨hq1, hcv⟩ := fin.out (fun h => absurd h hlt)
      have hcv := hcv.out
      clear fin
      go_wp2_with fail
      go_quiet (fail)
      go_wp2_with fail
      go_quiet (fail)
      go_wp2_with fail
      refine bodyPost_ret (v := .tuple #[.string ⟨q.toArray⟩, .bool true]) (by simp [results, Tryd.results31, go_sem]) rfl ⟨rfl, ?_, ?_⟩
      · refine (hR.out.grow (below_next (drewN_below wr _) (drewN_below _ _))).cast ?_
        rw [hq1.out]
        omega
      · exact hG.out.trans (grown_of_below (below_next (drewN_below wr _) (drewN_below _ _)))
end Go.Proofs.YtpklpfncohdlhaaDoor
