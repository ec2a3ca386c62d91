import Derived.Test.YtpgfnlhfciacoaaGreatDoorPGe
set_option maxRecDepth 100000
set_option maxHeartbeats 2000000
open Go.Lib renaming hid → Hi
namespace Go.Proofs.YtpgfnlhfciacoaaGreatDoor
open Go.RowKit
def encT (t : Tok) : List Value := [.int .i64 (t.kind : Int), .string ⟨t.text.toArray⟩, .int .i64 (t.at_ : Int)]
theorem encT_len (t : Tok) : (encT t).length = 3 := rfl
theorem one_flatT (l : List Tok) : ∀ u ∈ YF encT l, u.oneCell' = true := by
 induction l with
 | nil => intro u hu; simp [YF] at hu
 | cons t l ih =>
   intro u hu
   have e : YF encT (t :: l) = encT t ++ YF encT l := rfl
   rw [e] at hu
   rcases List.mem_append.1 hu with h | h
   · simp [encT] at h
     rcases h with rfl | rfl | rfl <;> rfl
   · exact ih u h
theorem infoT : (Tryz.prog.info? 158).map (fun i => (i.zero, i.size, i.bytes)) = some (some (.agg #[.int .i64 0, .string ⟨#[]⟩, .int .i64 0]), 3, 32) := by kernel_rfl
theorem infoRT : (Tryz.prog.info? 136).map (fun i => (i.zero, i.size, i.bytes)) = some (some (.agg #[.int .i64 0, .string ⟨#[]⟩, .int .i64 0]), 3, 32) := by kernel_rfl
theorem slAt_oneT (w : World) (k a : Nat) (x : List UInt8) (T : TypeId) : SlAt encT 3 (w.alloc (.cells #[.int .i64 (k : Int), .string ⟨x.toArray⟩, .int .i64 (a : Int)] T)) (some ⟨w.heap.size, 0, none⟩) [⟨k, x, a⟩] := by
 refine .inr ⟨w.heap.size, 0, rfl, by simp, fun j y hj i u hi => ?_⟩
 have hj0 : j = 0 := by
  have := (List.getElem?_eq_some_iff.1 hj).1
  simpa using this
 subst hj0
 obtain rfl : (⟨k, x, a⟩ : Tok) = y := by simpa using hj
 rw [Joins.cell_alloc_mark_at w _ _ _ _ _ rfl]
 match i, hi with
 | 0, hi => simpa [encT] using hi
 | 1, hi => simpa [encT] using hi
 | 2, hi => simpa [encT] using hi
theorem tk_at {w : World} {A : Option Addr} {ts : List Tok} (h : SlAt encT 3 w A ts) {j : Nat} (hj : j < ts.length) :
 ∃ b off, A = some ⟨b, off, none⟩ ∧ b < w.heap.size ∧ w.cell? ⟨b, off + j * 3, none⟩ = some (.int .i64 (ts[j].kind : Int)) ∧ w.cell? ⟨b, off + j * 3 + 1, none⟩ = some (.string ⟨ts[j].text.toArray⟩) ∧ w.cell? ⟨b, off + j * 3 + 2, none⟩ = some (.int .i64 (ts[j].at_ : Int)) := by
 obtain ⟨b, off, hA, hb, hc⟩ := h.at_ hj
 exact ⟨b, off, hA, hb, hc 0 _ rfl, hc 1 _ rfl, hc 2 _ rfl⟩
theorem flatL_snocT (l : List Tok) (t : Tok) : YF encT (l ++ [t]) = YF encT l ++ YF encT [t] := ZR l [t]
theorem tk_snoc {base : Nat} {T : TypeId} {w : World} {v : Value} {ts : List Tok} {t : Tok} (h : w.ownsRow base T 3 v (ts.length + [t].length) (YF encT ts ++ YF encT [t])) : w.ownsRow base T 3 v (ts ++ [t]).length (YF encT (ts ++ [t])) := by
 rw [List.length_append, flatL_snocT]
 exact h
structure Rd (bs : Nat) (A : Option Addr) (c : Nat) (l : List UInt8) (at_ : Int) (w : World) : Prop where
 blk : w.heap[bs]? = some (.cells #[.slice A l.length c, .int .i64 at_] 154 (0, 0))
 lies : ByAt bs w A c l
section
variable {bs c : Nat} {A : Option Addr} {l : List UInt8} {at_ : Int} {w w' : World}
theorem Rd.grow (h : Rd bs A c l at_ w) (hb : Below w.heap.size w w') : Rd bs A c l at_ w' :=
 ⟨(hb.block bs (Array.getElem?_eq_some_iff.1 h.blk).1).trans h.blk, h.lies.grow hb⟩
theorem Rd.c0 (h : Rd bs A c l at_ w) : w.cell? ⟨bs, 0, none⟩ = some (.slice A l.length c) := cell_of_row w bs 0 _ _ _ h.blk
theorem Rd.c1 (h : Rd bs A c l at_ w) : w.cell? ⟨bs, 1, none⟩ = some (.int .i64 at_) := cell_of_row w bs 1 _ _ _ h.blk
theorem Rd.lt (h : Rd bs A c l at_ w) : bs < w.heap.size := (Array.getElem?_eq_some_iff.1 h.blk).1
theorem Rd.set (h : Rd bs A c l at_ w) (x : Int) : Rd bs A c l x (w.setCell ⟨bs, 1, none⟩ (.int .i64 x)) := by
 refine ⟨?_, h.lies.below ((Below.refl bs w).setCell (p := ⟨bs, 1, none⟩) (Nat.le_refl _) _)⟩
 rw [Joins.block_setCell h.blk]
 rfl
theorem Rd.cast {x y : Int} (h : Rd bs A c l x w) (e : x = y) : Rd bs A c l y w := e ▸ h
theorem Rd.other {r : Nat} (h : Rd bs A c l at_ w) (hg : w.grownBy w' (some r)) (hr : bs < r) : Rd bs A c l at_ w' := by
 refine ⟨(hg.block bs h.lt (fun e => by injection e; omega)).trans h.blk, h.lies.le, ?_⟩
 rcases h.lies.lies with h0 | ⟨b, off, hA, hlt, hw, hc⟩
 · exact .inl h0
 · refine .inr ⟨b, off, hA, hlt, Nat.lt_of_lt_of_le hw hg.size, fun j hj => ?_⟩
   have e := hg.block b hw (fun e => by injection e; omega)
   unfold World.cell? at hc ⊢
   rw [e]
   exact hc j hj
theorem Rd.byte (h : Rd bs A c l at_ w) {k : Nat} (hk : k < l.length) : ∃ b off, A = some ⟨b, off, none⟩ ∧ b < bs ∧ w.cell? ⟨b, off + k, none⟩ = some (.int .u8 (l[k].toNat : Int)) := by
 obtain ⟨b, off, he, hb, _, hc⟩ := h.lies.cell hk
 exact ⟨b, off, he, hb, hc⟩
theorem rd_new {B : Nat} (hA : ByAt B w A c l) (x : Int) : Rd w.heap.size A c l x (w.alloc (.cells #[.slice A l.length c, .int .i64 x] 154)) :=
 ⟨YD _ _, hA.here.below ((Below.refl _ _).alloc (Nat.le_refl _) _)⟩
end
theorem quietS {f : FuncId} {args : Array Value} {w : World} {n : Nat} {v : Value} (h : Calls Tryz.prog f args (w.drewN n) fun e w' => e = .returned v ∧ w.drewN n = w') :
 Calls Tryz.prog f args (w.drewN n) fun e w' => e = .returned v ∧ ∃ m, w' = w.drewN m := Calls.quiet_of_same (h.mono fun _ _ ⟨a, b⟩ => ⟨a, b.symm⟩)
theorem kindOf_any (n : Nat) (w : World) (h1 : n ≤ 255) :
 Calls Tryz.prog 107 #[.int .u8 (n : Int)] w fun e w' => e = .returned (.int .i64 (ZD n : Int)) ∧ w = w' := by
 by_cases hs : n = 32 ∨ n = 40 ∨ n = 41 ∨ n = 34 ∨ n = 123
 · rcases hs with rfl | rfl | rfl | rfl | rfl
   all_goals
    go_enter Tryz.func107, Tryz.ntmps107
    go_wp2
    go_ret
    exact ⟨rfl, rfl⟩
 · have h2 : ¬ n = 32 := by omega
   have h3 : ¬ n = 40 := by omega
   have h4 : ¬ n = 41 := by omega
   have h5 : ¬ n = 34 := by omega
   have h6 : ¬ n = 123 := by omega
   clear hs
   by_cases ha : 33 ≤ n
   · by_cases hb : n ≤ 126
     · have R := Hi (show ZD n = 4 by unfold ZD; rw [if_neg h2, if_neg h3, if_neg h4, if_neg h5, if_neg h6, if_pos ⟨ha, hb⟩])
       have d1 : decide ((33 : Int) ≤ (n : Int)) = true := by simp; omega
       have d2 : decide ((n : Int) ≤ 126) = true := by simp; omega
       go_enter Tryz.func107, Tryz.ntmps107
       go_wp2
       go_ret
       exact ⟨ret_int (by rw [R.out]; rfl), rfl⟩
     · have R := Hi (show ZD n = 0 by unfold ZD; rw [if_neg h2, if_neg h3, if_neg h4, if_neg h5, if_neg h6, if_neg (by omega)])
       have d1 : decide ((33 : Int) ≤ (n : Int)) = true := by simp; omega
       have d2 : decide ((n : Int) ≤ 126) = false := by simp; omega
       go_enter Tryz.func107, Tryz.ntmps107
       go_wp2
       go_ret
       exact ⟨ret_int (by rw [R.out]; rfl), rfl⟩
   · have R := Hi (show ZD n = 0 by unfold ZD; rw [if_neg h2, if_neg h3, if_neg h4, if_neg h5, if_neg h6, if_neg (by omega)])
     have d1 : decide ((33 : Int) ≤ (n : Int)) = false := by simp; omega
     go_enter Tryz.func107, Tryz.ntmps107
     go_wp2
     go_ret
     exact ⟨ret_int (by rw [R.out]; rfl), rfl⟩
theorem mark_any (bs c : Nat) (A : Option Addr) (l : List UInt8) (k : Nat) (_hk : k ≤ 1000000000) (w : World) (h : Rd bs A c l (k : Int) w) :
 Calls Tryz.prog 148 #[.pointer (some ⟨bs, 0, none⟩)] w fun e w' => e = .returned (.tuple #[.string ⟨#[]⟩, .bool true]) ∧ Hid (Rd bs A c l ((k + 1 : Nat) : Int) w') ∧ w.grownBy w' (some bs) := by
 have c1 := h.c1
 have f1 := Joins.unfrozen_of_block h.blk 1
 have HS := Hi ((h.set ((k : Int) + 1)).cast (y := ((k + 1 : Nat) : Int)) (by omega))
 have HG := Hi (YH (World.grownBy.refl w (some bs)) 1 (.int .i64 ((k : Int) + 1)))
 clear h
 go_enter Tryz.func148, Tryz.ntmps148
 go_wp2_with fail
 refine bodyPost_ret (v := .tuple #[.string ⟨#[]⟩, .bool true]) (by simp [results, Tryz.results148, go_sem]) rfl ⟨rfl, HS.out, HG.out⟩
theorem convSW (B : Nat) (w : World) (A : Option Addr) (c n : Nat) (l : List UInt8) (h : ByAt B w A c l) (hn : l.length = n) (d : Nat) :
 (convert 24 9 (.slice A n c)).run Tryz.prog (w.drewN d) = .ok (.string ⟨l.toArray⟩) (w.drewN d) :=
 convS B (w.drewN d) A c n l ⟨h.le, h.lies⟩ hn
theorem dig_all_snoc_w {l : List UInt8} {k p : Nat} (hlt : p < l.length) (hkp : k ≤ p) (ha : ((l.drop k).take (p - k)).all wordC = true) (hd : wordC l[p] = true) : ((l.drop k).take (p + 1 - k)).all wordC = true := by
 have hh : p - k < (l.drop k).length := by rw [List.length_drop]; omega
 rw [show p + 1 - k = (p - k) + 1 by omega, List.take_succ_eq_append_getElem hh, List.all_append, ha]
 have e : (l.drop k)[p - k] = l[p] := by
  rw [List.getElem_drop]
  congr 1
  omega
 rw [e]
 simp [hd]
theorem word_any (bs c : Nat) (A : Option Addr) (l : List UInt8) (k : Nat) (hk : k ≤ l.length) (hl : l.length ≤ 1000000) (w : World) (h : Rd bs A c l (k : Int) w) :
 Calls Tryz.prog 149 #[.pointer (some ⟨bs, 0, none⟩)] w fun e w' => e = .returned (.tuple #[.string ⟨(wordR (l.drop k)).toArray⟩, .bool true]) ∧ Hid (Rd bs A c l ((k + (wordR (l.drop k)).length : Nat) : Int) w') ∧ w.grownBy w' (some bs) := by
 have KO := Hi (fun n W h => kindOf_any n W h)
 have hle := h.lies.le
 have c1 := h.c1
 have HH := Hi h
 have hse := fun x lo hi mx W => YY x lo hi mx W
 obtain ⟨q, hq⟩ : ∃ q, wordR (l.drop k) = q := ⟨_, rfl⟩
 rw [hq]
 have HQ := Hi hq
 clear hq h
 go_enter Tryz.func149, Tryz.ntmps149
 go_wp2_with fail
 go_loopg [9] l.length (fun gg _ wr => ∃ p : Nat, k ≤ p ∧ p ≤ l.length ∧ l.length - p ≤ gg ∧ Hid (((l.drop k).take (p - k)).all wordC = true) ∧ Hid (Rd bs A c l (p : Int) wr) ∧ Hid (w.grownBy wr (some bs)))
 case atStart => exact ⟨k, Nat.le_refl _, hk, by omega, by rw [Nat.sub_self]; rfl, HH, World.grownBy.refl _ _⟩
 case round =>
  obtain ⟨p, hkp, hpl, hgg, hD, hR, hG⟩ := hrel
  have c0 := hR.out.c0
  have c1' := hR.out.c1
  have f1 := Joins.unfrozen_of_block hR.out.blk 1
  clear c1
  have fin : (∀ h : p < l.length, wordC l[p] = false) → Hid (q.length = p - k) ∧ Hid (∀ d, (convert 24 9 (.slice (offA A c k) (p - k) (c - k))).run Tryz.prog (wr.drewN d) = .ok (.string ⟨q.toArray⟩) (wr.drewN d)) := fun hend => by
   have hqe : q = (l.drop k).take (p - k) := by
    rw [← HQ.out]
    refine takeWhile_at (l.drop k) (p - k) (by rw [List.length_drop]; omega) hD.out (fun h => ?_)
    rw [List.length_drop] at h
    rw [List.getElem_drop]
    have := hend (by omega)
    simpa [show k + (p - k) = p by omega] using this
   have hql : q.length = p - k := by rw [hqe, List.length_take, List.length_drop]; omega
   have hT := hR.out.lies.cut (lo := k) (hi := p) hkp hpl
   rw [List.drop_take, ← hqe] at hT
   exact ⟨hql, convSW bs wr _ (c - k) (p - k) q hT hql⟩
  have fin := Hi fin
  have hsl := fun W => slice_lh A l.length c k p hkp (by omega) W
  by_cases hlt : p < l.length
  · obtain ⟨b, off, rfl, hb, hc⟩ := hR.out.byte hlt
    have hn : l[p].toNat ≤ 255 := by have := l[p].toNat_lt; omega
    have d1 : decide ((p : Int) < (l.length : Int)) = true := by simp; omega
    by_cases hw : ZD l[p].toNat = 4
    · have HN := Hi (dig_all_snoc_w hlt hkp hD.out (kindN_word.1 hw))
      have K := fun W => KO.out l[p].toNat W hn
      rw [hw] at K
      have K := Hi K
      have HS := Hi (fun d => ((hR.out.grow (ZF wr d)).set ((p : Int) + 1)).cast (y := ((p + 1 : Nat) : Int)) (by omega))
      have HG := Hi (fun d => YH (hG.out.trans (YE (ZF wr d))) 1 (.int .i64 ((p : Int) + 1)))
      clear hw fin hR hG
      generalize l[p].toNat = x at *
      go_wp2_with fail
      go_quiet ((go_at_call 107; refine quietS (K.out _)))
      go_wp2_with fail
      go_roundg (l.length - (p + 1))
      case measure => omega
      case rel => exact ⟨p + 1, by omega, by omega, by omega, HN, HS.out _, HG.out _⟩
    · have hf := fin.out (fun _ => by
       rw [← Bool.not_eq_true]
       exact fun e => hw (kindN_word.2 e))
      obtain ⟨hq1, hcv⟩ := hf
      have hcv := hcv.out
      have K := fun W => KO.out l[p].toNat W hn
      have hw' : ((ZD l[p].toNat : Int) == 4) = false := by simp; omega
      have K := Hi K
      clear fin
      generalize l[p].toNat = x at *
      generalize ZD x = y at *
      go_wp2_with fail
      go_quiet ((go_at_call 107; refine quietS (K.out _)))
      go_wp2_with fail
      go_quiet (fail)
      go_wp2_with fail
      refine bodyPost_ret (v := .tuple #[.string ⟨q.toArray⟩, .bool true]) (by simp [results, Tryz.results149, go_sem]) rfl ⟨rfl, ?_, ?_⟩
      · refine (hR.out.grow (YA (ZF wr _) (ZF _ _))).cast ?_
        rw [hq1.out]
        omega
      · exact hG.out.trans (YE (YA (ZF wr _) (ZF _ _)))
  · have d1 : decide ((p : Int) < (l.length : Int)) = false := by simp; omega
    obtain ⟨hq1, hcv⟩ := fin.out (fun h => absurd h hlt)
    have hcv := hcv.out
    clear fin
    go_wp2_with fail
    go_quiet (fail)
    go_wp2_with fail
    go_quiet (fail)
    go_wp2_with fail
    refine bodyPost_ret (v := .tuple #[.string ⟨q.toArray⟩, .bool true]) (by simp [results, Tryz.results149, go_sem]) rfl ⟨rfl, ?_, ?_⟩
    · refine (hR.out.grow (YA (ZF wr _) (ZF _ _))).cast ?_
      rw [hq1.out]
      omega
    · exact hG.out.trans (YE (YA (ZF wr _) (ZF _ _)))
section
open Go.Maps
def ptrBlk (a : Array Value) : Option Nat :=
 match a.toList with
 | [.pointer (some ⟨b, 0, none⟩)] => some b
 | _ => none
theorem ptrBlk_eq {a : Array Value} {b : Nat} (h : ptrBlk a = some b) : a = #[.pointer (some ⟨b, 0, none⟩)] := by
 unfold ptrBlk at h
 split at h
 · rename_i b' he
   obtain rfl := Option.some.inj h
   apply Array.toList_inj.1
   exact he
 · cases h
def fnElemP (bs : Nat) : Value → Option (DataW Unit × List MemPlace)
 | .nilFunc => some (.nil, [])
 | .func (.func n) a b => if ptrBlk a = some bs ∧ b.size = 0 then some (.lit (.int .i64 n), []) else none
 | _ => none
theorem fnElemP_nil {bs : Nat} {v : Value} {ps : List MemPlace} (h : fnElemP bs v = some (.nil, ps)) : v = .nilFunc := by
 unfold fnElemP at h
 split at h
 · rfl
 · split at h <;> simp at h
 · cases h
theorem fnElemP_fn {bs : Nat} {v : Value} {n : Nat} {ps : List MemPlace} (h : fnElemP bs v = some (.lit (.int .i64 n), ps)) : v = .func (.func n) #[.pointer (some ⟨bs, 0, none⟩)] #[] := by
 unfold fnElemP at h
 split at h
 · simp at h
 · rename_i m a b
   split at h
   · rename_i hs
     simp at h
     obtain ⟨h, _⟩ := h
     obtain rfl := ptrBlk_eq hs.1
     have hb : b = #[] := by apply Array.eq_empty_of_size_eq_zero hs.2
     subst hb
     first
      | (subst h; rfl)
      | (have hm : m = n := Int.ofNat.inj h; subst hm; rfl)
   · cases h
 · cases h
def rfD (n : Nat) : DataW Unit := .lit (.int .i64 (n : Int))
def rdD : DataW Unit :=
 ((((((DataW.map []).put (.int .i64 1) (rfD 148)).put (.int .i64 2) (rfD 148)).put (.int .i64 3) (rfD 148)).put (.int .i64 4) (rfD 149)).put (.int .i64 5) (rfD 150)).put (.int .i64 6) (rfD 151)
def rdF (k : Nat) : FuncId := if k ≤ 3 then 148 else if k = 4 then 149 else if k = 5 then 150 else 151
theorem keyI6 : Keyed Tryz.prog 3 := int_keyed Tryz.underlying3
theorem kI6 (x : Int) (h1 : -9223372036854775808 ≤ x) (h2 : x ≤ 9223372036854775807) : keyOf Tryz.prog 3 (.int .i64 x) = some (.int .i64 x) :=
 keyOf_int_mk Tryz.underlying3 (by simp [Lit.wf, IntKind.min, IntKind.max, IntKind.signed, IntKind.bits]; omega)
theorem zeroFn6 (w : World) : (zeroValue 159).run Tryz.prog w = .ok .nilFunc w := by kernel_rfl
theorem look_rd {w : World} {m bs : Nat} (hown : w.ownsMap Tryz.prog 3 (fnElemP bs) m 6 rdD) (k : Nat) (h1 : 1 ≤ k) (h6 : k ≤ 6) :
 (Instr.lookup 155 (.map (some m)) (.int .i64 (k : Int)) true).run Tryz.prog w = .ok (.tuple #[.func (.func (rdF k)) #[.pointer (some ⟨bs, 0, none⟩)] #[], .bool true]) w := by
 obtain ⟨v, ps, hrun, hv⟩ := hown.look_ok keyI6 Tryz.underlying155 (zeroFn6 w) (zd := .nil) (zp := []) rfl (kI6 k (by omega) (by omega))
 have hD : rdD.atKey (.int .i64 (k : Int)) .nil = rfD (rdF k) ∧ Maps.has rdD (.int .i64 (k : Int)) = true := by
  have hc : k = 1 ∨ k = 2 ∨ k = 3 ∨ k = 4 ∨ k = 5 ∨ k = 6 := by omega
  rcases hc with rfl | rfl | rfl | rfl | rfl | rfl <;> exact ⟨by kernel_rfl, by kernel_rfl⟩
 rw [hD.1] at hv
 obtain rfl := fnElemP_fn hv
 rw [hrun, hD.2]
theorem look_rd0 {w : World} {m bs : Nat} (hown : w.ownsMap Tryz.prog 3 (fnElemP bs) m 6 rdD) :
 (Instr.lookup 155 (.map (some m)) (.int .i64 0) true).run Tryz.prog w = .ok (.tuple #[.nilFunc, .bool false]) w := by
 obtain ⟨v, ps, hrun, hv⟩ := hown.look_ok keyI6 Tryz.underlying155 (zeroFn6 w) (zd := .nil) (zp := []) rfl (kI6 0 (by omega) (by omega))
 have hD : rdD.atKey (.int .i64 0) .nil = .nil ∧ Maps.has rdD (.int .i64 0) = false := ⟨by kernel_rfl, by kernel_rfl⟩
 rw [hD.1] at hv
 obtain rfl := fnElemP_nil hv
 rw [hrun, hD.2]
theorem readers_any (bs : Nat) (w : World) :
 Calls Tryz.prog 106 #[.pointer (some ⟨bs, 0, none⟩)] w fun e w' => e = .returned (.map (some w.heap.size)) ∧ w'.ownsMap Tryz.prog 3 (fnElemP bs) w.heap.size 6 rdD ∧ Below w.heap.size w w' := by
 have hmm := @run_makeMap Tryz.prog
 have hown := World.ownsMap_made (H := Unit) w Tryz.prog 3 (fnElemP bs)
 have hb : Below w.heap.size w (w.alloc (.map #[] 0)) := (Below.refl _ _).alloc (Nat.le_refl _) _
 have HO := Hi hown
 have hR : ∀ n : Nat, fnElemP bs (.func (.func n) #[.pointer (some ⟨bs, 0, none⟩)] #[]) = some (rfD n, []) := fun n => by
  show (if ptrBlk #[.pointer (some ⟨bs, 0, none⟩)] = some bs ∧ _ then _ else _) = _
  rw [if_pos ⟨rfl, rfl⟩]
  rfl
 have HR := Hi hR
 clear hown hR
 go_enter Tryz.func106, Tryz.ntmps106
 go_wp2_with (first
  | (refine YJ (H := Unit) _ rfl _ (.const (.int .i64 1)) _ 155 rfl 3 159 keyI6 Tryz.underlying155 (fnElemP bs) w.heap.size 0 _ rfl HO.out (by decide) (.int .i64 1) _ (.int .i64 1) rfl rfl (kI6 1 (by decide) (by decide)) (rfD 148) [] (HR.out _) ?_; intro w1 ho1 hg1; have HO1 := Hi ho1; have hb1 := hb.grown hg1 (by simp) (fun j hj => by cases hj; exact Nat.le_refl _); clear ho1 hg1)
  | (refine YJ (H := Unit) _ rfl _ (.const (.int .i64 2)) _ 155 rfl 3 159 keyI6 Tryz.underlying155 (fnElemP bs) w.heap.size 1 _ rfl HO1.out (by decide) (.int .i64 2) _ (.int .i64 2) rfl rfl (kI6 2 (by decide) (by decide)) (rfD 148) [] (HR.out _) ?_; intro w2 ho2 hg2; have HO2 := Hi ho2; have hb2 := hb1.grown hg2 hb1.size (fun j hj => by cases hj; exact Nat.le_refl _); clear ho2 hg2)
  | (refine YJ (H := Unit) _ rfl _ (.const (.int .i64 3)) _ 155 rfl 3 159 keyI6 Tryz.underlying155 (fnElemP bs) w.heap.size 2 _ rfl HO2.out (by decide) (.int .i64 3) _ (.int .i64 3) rfl rfl (kI6 3 (by decide) (by decide)) (rfD 148) [] (HR.out _) ?_; intro w3 ho3 hg3; have HO3 := Hi ho3; have hb3 := hb2.grown hg3 hb2.size (fun j hj => by cases hj; exact Nat.le_refl _); clear ho3 hg3)
  | (refine YJ (H := Unit) _ rfl _ (.const (.int .i64 4)) _ 155 rfl 3 159 keyI6 Tryz.underlying155 (fnElemP bs) w.heap.size 3 _ rfl HO3.out (by decide) (.int .i64 4) _ (.int .i64 4) rfl rfl (kI6 4 (by decide) (by decide)) (rfD 149) [] (HR.out _) ?_; intro w4 ho4 hg4; have HO4 := Hi ho4; have hb4 := hb3.grown hg4 hb3.size (fun j hj => by cases hj; exact Nat.le_refl _); clear ho4 hg4)
  | (refine YJ (H := Unit) _ rfl _ (.const (.int .i64 5)) _ 155 rfl 3 159 keyI6 Tryz.underlying155 (fnElemP bs) w.heap.size 4 _ rfl HO4.out (by decide) (.int .i64 5) _ (.int .i64 5) rfl rfl (kI6 5 (by decide) (by decide)) (rfD 150) [] (HR.out _) ?_; intro w5 ho5 hg5; have HO5 := Hi ho5; have hb5 := hb4.grown hg5 hb4.size (fun j hj => by cases hj; exact Nat.le_refl _); clear ho5 hg5)
  | (refine YJ (H := Unit) _ rfl _ (.const (.int .i64 6)) _ 155 rfl 3 159 keyI6 Tryz.underlying155 (fnElemP bs) w.heap.size 5 _ rfl HO5.out (by decide) (.int .i64 6) _ (.int .i64 6) rfl rfl (kI6 6 (by decide) (by decide)) (rfD 151) [] (HR.out _) ?_; intro w6 ho6 hg6; have HO6 := Hi ho6; have hb6 := hb5.grown hg6 hb5.size (fun j hj => by cases hj; exact Nat.le_refl _); clear ho6 hg6))
 go_ret
 exact ⟨rfl, HO6.out, hb6⟩
end
end Go.Proofs.YtpgfnlhfciacoaaGreatDoor
