import Derived.Test.YtpgfnlhfciacoaaGreatDoorPGj
set_option maxRecDepth 100000
set_option maxHeartbeats 2000000
open Go.Lib renaming hid → Hi
namespace Go.Proofs.YtpgfnlhfciacoaaGreatDoor
open Go.RowKit
def restO (r : List UInt8) : Option (List UInt8 × Nat) := (oneR r).map (·.2)
def RdPost (bs c : Nat) (A : Option Addr) (l : List UInt8) (k : Nat) (o : Option (List UInt8 × Nat)) (w : World) (e : Ending) (w' : World) : Prop :=
 w.grownBy w' (some bs) ∧ ((∃ x n, o = some (x, n) ∧ e = .returned (.tuple #[.string ⟨x.toArray⟩, .bool true]) ∧ Rd bs A c l ((k + n : Nat) : Int) w') ∨ (o = none ∧ e = .returned (.tuple #[.string ⟨#[]⟩, .bool false]) ∧ Rd bs A c l (k : Int) w'))
theorem RdPost.some_ {bs c : Nat} {A : Option Addr} {l : List UInt8} {k n : Nat} {x : List UInt8} {w w' : World} {e : Ending} (h : RdPost bs c A l k (some (x, n)) w e w') :
 w.grownBy w' (some bs) ∧ e = .returned (.tuple #[.string ⟨x.toArray⟩, .bool true]) ∧ Rd bs A c l ((k + n : Nat) : Int) w' := by
 obtain ⟨h1, ⟨x', n', h2, h3, h4⟩ | ⟨h2, _⟩⟩ := h
 · simp only [Option.some.injEq, Prod.mk.injEq] at h2
   obtain ⟨rfl, rfl⟩ := h2
   exact ⟨h1, h3, h4⟩
 · cases h2
theorem RdPost.none_ {bs c : Nat} {A : Option Addr} {l : List UInt8} {k : Nat} {w w' : World} {e : Ending} (h : RdPost bs c A l k none w e w') :
 w.grownBy w' (some bs) ∧ e = .returned (.tuple #[.string ⟨#[]⟩, .bool false]) ∧ Rd bs A c l (k : Int) w' := by
 obtain ⟨h1, ⟨x', n', h2, _⟩ | ⟨_, h3, h4⟩⟩ := h
 · cases h2
 · exact ⟨h1, h3, h4⟩
theorem spost_some {P : List UInt8} {m base : Nat} {e : Ending} {w' : World} (h : SPost (some (P, m)) base e w') :
 ∃ g c', e = .returned (.tuple #[.slice (some ⟨g, 0, none⟩) P.length c', .int .i64 (m : Int), .bool true]) ∧ w'.ownsRow base 5 1 (.slice (some ⟨g, 0, none⟩) P.length c') P.length (YF encB P) := by
 rcases h with ⟨P', m', g, c', h1, h2, h3⟩ | ⟨h1, _⟩
 · simp only [Option.some.injEq, Prod.mk.injEq] at h1
   obtain ⟨rfl, rfl⟩ := h1
   exact ⟨g, c', h2, h3⟩
 · cases h1
theorem spost_none {base : Nat} {e : Ending} {w' : World} (h : SPost none base e w') : e = .returned (.tuple #[.slice none 0 0, .int .i64 0, .bool false]) := by
 rcases h with ⟨P', m', g, c', h1, _⟩ | ⟨_, h1⟩
 · cases h1
 · exact h1
theorem ByAt.other {B c r : Nat} {w w' : World} {A : Option Addr} {l : List UInt8} (h : ByAt B w A c l) (hg : w.grownBy w' (some r)) (hne : ∀ b off, A = some ⟨b, off, none⟩ → b ≠ r) : ByAt B w' A c l := by
 refine ⟨h.le, ?_⟩
 rcases h.lies with h0 | ⟨b, off, hA, hlt, hw, hc⟩
 · exact .inl h0
 · refine .inr ⟨b, off, hA, hlt, Nat.lt_of_lt_of_le hw hg.size, fun j hj => ?_⟩
   have e := hg.block b hw (fun e => hne b off hA (Option.some.inj e))
   have := hc j hj
   unfold World.cell? at this ⊢
   rw [e]
   exact this
theorem scan_Q (bs c : Nat) (A : Option Addr) (l : List UInt8) (k : Nat) (o : Option (List UInt8 × Nat)) (hl : l.length ≤ 1000000) (w : World) (_henv : Env w) (h : Rd bs A c l (k : Int) w) (hk : k ≤ l.length) (ho : scanQ l (k : Int) = o.map fun t => (t.1, k + t.2)) :
 Calls Tryz.prog 176 #[.pointer (some ⟨bs, 0, none⟩), .func (.func 177) #[] #[]] w (RdPost bs c A l k o w) := by
 have hbs := h.lt
 have S0 : ∀ W, Below w.heap.size w W → Calls Tryz.prog 177 #[.slice A l.length c, .int .i64 (k : Int)] W fun e w' => SPost (o.map fun t => (t.1, k + t.2)) W.heap.size e w' ∧ Below W.heap.size W w' := fun W hW => by
  have := scanQuoted_any bs c A l (k : Int) (by omega) (by omega) hl W ((h.grow hW).lies)
  rw [ho] at this
  exact this
 have c0 := h.c0
 have c1 := h.c1
 cases o with
 | none =>
   have S := Hi (fun W hW => (S0 W hW).mono fun e w' (hh : _ ∧ _) => (⟨spost_none hh.1, YA hW hh.2⟩ : e = _ ∧ Below w.heap.size w w'))
   have HH := Hi h
   clear S0 h ho
   go_enter Tryz.func176, Tryz.ntmps176
   go_wp2_with fail
   go_region_with (go_at_call 177; refine (S.out _ (by repeat (first | assumption | exact Below.refl _ _ | refine Below.drew ?_ ))).mono ?_; rintro e w3 ⟨rfl, hb3⟩)
   all_goals
    have HR := Hi (HH.out.grow hb3)
    have HG := Hi (YE (row := some bs) hb3)
    clear hb3
    go_wp2_with fail
    refine bodyPost_ret (v := .tuple #[.string ⟨#[]⟩, .bool false]) (by simp [results, Tryz.results176, go_sem]) rfl ⟨HG.out, .inr ⟨rfl, rfl, HR.out⟩⟩
 | some t =>
   obtain ⟨x, n⟩ := t
   have S := Hi (fun W hW => (S0 W hW).mono fun e w' (hh : _ ∧ _) => by
    obtain ⟨g, c', h1, h2⟩ := spost_some hh.1
    exact (⟨g, c', h1, ByAt.of_own h2, by have := (h2.lt g rfl).1; have := hW.size; omega, YA hW hh.2⟩ : ∃ g c', e = .returned (.tuple #[.slice (some ⟨g, 0, none⟩) x.length c', .int .i64 ((k + n : Nat) : Int), .bool true]) ∧ ByAt w'.heap.size w' (some ⟨g, 0, none⟩) c' x ∧ w.heap.size ≤ g ∧ Below w.heap.size w w'))
   have HH := Hi h
   clear S0 h ho
   obtain ⟨m, hm⟩ : ∃ m : Nat, k + n = m := ⟨_, rfl⟩
   rw [hm] at S
   have HM := Hi hm
   clear hm
   obtain ⟨xl, hxl⟩ : ∃ xl, x.length = xl := ⟨_, rfl⟩
   rw [hxl] at S
   have HX := Hi hxl
   clear hxl
   go_enter Tryz.func176, Tryz.ntmps176
   go_wp2_with fail
   go_region_with (go_at_call 177; refine (S.out _ (by repeat (first | assumption | exact Below.refl _ _ | refine Below.drew ?_ ))).mono ?_; rintro e w3 ⟨g, c', rfl, hby, hg, hb3⟩)
   all_goals
    have R3 := HH.out.grow hb3
    have c1' := R3.c1
    have f1 := Joins.unfrozen_of_block R3.blk 1
    have HS := Hi (R3.set (m : Int))
    have hgs := ZG w3 bs 1 (.int .i64 (m : Int))
    have hcv := convS _ (w3.setCell ⟨bs, 1, none⟩ (.int .i64 (m : Int))) _ c' xl x (hby.other hgs (fun b off e => by injection e with e; injection e with e1; omega)) HX.out
    have HG := Hi ((YE (row := some bs) hb3).trans hgs)
    clear hb3 hby R3 hgs
    go_wp2_with fail
    refine bodyPost_ret (v := .tuple #[.string ⟨x.toArray⟩, .bool true]) (by simp [results, Tryz.results176, go_sem]) rfl ⟨HG.out, .inl ⟨x, n, rfl, rfl, HS.out.cast (by rw [HM.out])⟩⟩
theorem quoted_rd (bs c : Nat) (A : Option Addr) (l : List UInt8) (k : Nat) (o : Option (List UInt8 × Nat)) (hl : l.length ≤ 1000000) (w : World) (henv : Env w) (h : Rd bs A c l (k : Int) w) (hk : k ≤ l.length) (ho : scanQ l (k : Int) = o.map fun t => (t.1, k + t.2)) :
 Calls Tryz.prog 150 #[.pointer (some ⟨bs, 0, none⟩)] w (RdPost bs c A l k o w) := by
 have S := Hi (scan_Q bs c A l k o hl w henv h hk ho)
 clear henv h ho hl hk
 cases o with
 | none =>
   go_enter Tryz.func150, Tryz.ntmps150
   go_wp2_with fail
   refine S.out.mono ?_
   intro e w1 hp
   obtain ⟨h1, he, h3⟩ := hp.none_
   subst he
   have HP := Hi hp
   clear hp h1 h3 S
   go_wp2_with fail
   refine bodyPost_ret (v := .tuple #[.string ⟨#[]⟩, .bool false]) (by simp [results, Tryz.results150, go_sem]) rfl HP.out
 | some t =>
   obtain ⟨x, n⟩ := t
   go_enter Tryz.func150, Tryz.ntmps150
   go_wp2_with fail
   refine S.out.mono ?_
   intro e w1 hp
   obtain ⟨h1, he, h3⟩ := hp.some_
   subst he
   have HP := Hi hp
   clear hp h1 h3 S
   go_wp2_with fail
   refine bodyPost_ret (v := .tuple #[.string ⟨x.toArray⟩, .bool true]) (by simp [results, Tryz.results150, go_sem]) rfl HP.out
theorem scan_L (bs c : Nat) (A : Option Addr) (l : List UInt8) (k : Nat) (o : Option (List UInt8 × Nat)) (hl : l.length ≤ 1000000) (w : World) (henv : Env w) (h : Rd bs A c l (k : Int) w) (hk : k ≤ l.length) (ho : scanL l (k : Int) = o.map fun t => (t.1, k + t.2)) :
 Calls Tryz.prog 176 #[.pointer (some ⟨bs, 0, none⟩), .func (.func 178) #[] #[]] w (RdPost bs c A l k o w) := by
 have hbs := h.lt
 have S0 : ∀ W, Below w.heap.size w W → Calls Tryz.prog 178 #[.slice A l.length c, .int .i64 (k : Int)] W fun e w' => SPost (o.map fun t => (t.1, k + t.2)) W.heap.size e w' ∧ Below W.heap.size W w' := fun W hW => by
  have := scanLiteral_any bs c A l (k : Int) (by omega) (by omega) hl W (henv.below hW) ((h.grow hW).lies)
  rw [ho] at this
  exact this
 have c0 := h.c0
 have c1 := h.c1
 cases o with
 | none =>
   have S := Hi (fun W hW => (S0 W hW).mono fun e w' (hh : _ ∧ _) => (⟨spost_none hh.1, YA hW hh.2⟩ : e = _ ∧ Below w.heap.size w w'))
   have HH := Hi h
   clear S0 h ho henv
   go_enter Tryz.func176, Tryz.ntmps176
   go_wp2_with fail
   go_region_with (go_at_call 178; refine (S.out _ (by repeat (first | assumption | exact Below.refl _ _ | refine Below.drew ?_ ))).mono ?_; rintro e w3 ⟨rfl, hb3⟩)
   all_goals
    have HR := Hi (HH.out.grow hb3)
    have HG := Hi (YE (row := some bs) hb3)
    clear hb3
    go_wp2_with fail
    refine bodyPost_ret (v := .tuple #[.string ⟨#[]⟩, .bool false]) (by simp [results, Tryz.results176, go_sem]) rfl ⟨HG.out, .inr ⟨rfl, rfl, HR.out⟩⟩
 | some t =>
   obtain ⟨x, n⟩ := t
   have S := Hi (fun W hW => (S0 W hW).mono fun e w' (hh : _ ∧ _) => by
    obtain ⟨g, c', h1, h2⟩ := spost_some hh.1
    exact (⟨g, c', h1, ByAt.of_own h2, by have := (h2.lt g rfl).1; have := hW.size; omega, YA hW hh.2⟩ : ∃ g c', e = .returned (.tuple #[.slice (some ⟨g, 0, none⟩) x.length c', .int .i64 ((k + n : Nat) : Int), .bool true]) ∧ ByAt w'.heap.size w' (some ⟨g, 0, none⟩) c' x ∧ w.heap.size ≤ g ∧ Below w.heap.size w w'))
   have HH := Hi h
   clear S0 h ho henv
   obtain ⟨m, hm⟩ : ∃ m : Nat, k + n = m := ⟨_, rfl⟩
   rw [hm] at S
   have HM := Hi hm
   clear hm
   obtain ⟨xl, hxl⟩ : ∃ xl, x.length = xl := ⟨_, rfl⟩
   rw [hxl] at S
   have HX := Hi hxl
   clear hxl
   go_enter Tryz.func176, Tryz.ntmps176
   go_wp2_with fail
   go_region_with (go_at_call 178; refine (S.out _ (by repeat (first | assumption | exact Below.refl _ _ | refine Below.drew ?_ ))).mono ?_; rintro e w3 ⟨g, c', rfl, hby, hg, hb3⟩)
   all_goals
    have R3 := HH.out.grow hb3
    have c1' := R3.c1
    have f1 := Joins.unfrozen_of_block R3.blk 1
    have HS := Hi (R3.set (m : Int))
    have hgs := ZG w3 bs 1 (.int .i64 (m : Int))
    have hcv := convS _ (w3.setCell ⟨bs, 1, none⟩ (.int .i64 (m : Int))) _ c' xl x (hby.other hgs (fun b off e => by injection e with e; injection e with e1; omega)) HX.out
    have HG := Hi ((YE (row := some bs) hb3).trans hgs)
    clear hb3 hby R3 hgs
    go_wp2_with fail
    refine bodyPost_ret (v := .tuple #[.string ⟨x.toArray⟩, .bool true]) (by simp [results, Tryz.results176, go_sem]) rfl ⟨HG.out, .inl ⟨x, n, rfl, rfl, HS.out.cast (by rw [HM.out])⟩⟩
theorem literal_rd (bs c : Nat) (A : Option Addr) (l : List UInt8) (k : Nat) (o : Option (List UInt8 × Nat)) (hl : l.length ≤ 1000000) (w : World) (henv : Env w) (h : Rd bs A c l (k : Int) w) (hk : k ≤ l.length) (ho : scanL l (k : Int) = o.map fun t => (t.1, k + t.2)) :
 Calls Tryz.prog 151 #[.pointer (some ⟨bs, 0, none⟩)] w (RdPost bs c A l k o w) := by
 have S := Hi (scan_L bs c A l k o hl w henv h hk ho)
 clear henv h ho hl hk
 cases o with
 | none =>
   go_enter Tryz.func151, Tryz.ntmps151
   go_wp2_with fail
   refine S.out.mono ?_
   intro e w1 hp
   obtain ⟨h1, he, h3⟩ := hp.none_
   subst he
   have HP := Hi hp
   clear hp h1 h3 S
   go_wp2_with fail
   refine bodyPost_ret (v := .tuple #[.string ⟨#[]⟩, .bool false]) (by simp [results, Tryz.results151, go_sem]) rfl HP.out
 | some t =>
   obtain ⟨x, n⟩ := t
   go_enter Tryz.func151, Tryz.ntmps151
   go_wp2_with fail
   refine S.out.mono ?_
   intro e w1 hp
   obtain ⟨h1, he, h3⟩ := hp.some_
   subst he
   have HP := Hi hp
   clear hp h1 h3 S
   go_wp2_with fail
   refine bodyPost_ret (v := .tuple #[.string ⟨x.toArray⟩, .bool true]) (by simp [results, Tryz.results151, go_sem]) rfl HP.out
theorem restO_mark {r : List UInt8} {y : UInt8} (h : r[0]? = some y) (hk : ZD y.toNat = 1 ∨ ZD y.toNat = 2 ∨ ZD y.toNat = 3) : restO r = some ([], 1) := by
 unfold restO oneR
 rw [h]
 simp only
 rw [if_neg (by omega), if_neg (by omega), if_neg (by omega), if_neg (by omega)]
 rfl
theorem restO_word {r : List UInt8} {y : UInt8} (h : r[0]? = some y) (hk : ZD y.toNat = 4) : restO r = some (wordR r, (wordR r).length) := by
 unfold restO oneR
 rw [h]
 simp only
 rw [if_neg (by omega), if_pos hk]
 rfl
theorem kind5 {y : UInt8} (hk : ZD y.toNat = 5) : y = 34 := by
 have h5' : y.toNat = 34 := by
  unfold ZD at hk
  repeat' split at hk
  all_goals omega
 exact UInt8.toNat_inj.1 h5'
theorem kind6 {y : UInt8} (hk : ZD y.toNat = 6) : y = 123 := by
 have h5' : y.toNat = 123 := by
  unfold ZD at hk
  repeat' split at hk
  all_goals omega
 exact UInt8.toNat_inj.1 h5'
theorem scanQ_rest {l : List UInt8} {k : Nat} {y : UInt8} (h : l[k]? = some y) (hk : ZD y.toNat = 5) : scanQ l (k : Int) = (restO (l.drop k)).map fun t => (t.1, k + t.2) := by
 have hy := kind5 hk
 subst hy
 rw [scanQ_yes h]
 unfold restO oneR
 rw [drop_at, h]
 simp only
 rw [if_neg (by omega), if_neg (by omega), if_pos hk, List.drop_drop]
 cases ZL (l.drop (k + 1)) with
 | none => rfl
 | some t => simp only [Option.map_some, Option.some.injEq, Prod.mk.injEq, true_and]; omega
theorem scanL_rest {l : List UInt8} {k : Nat} {y : UInt8} (h : l[k]? = some y) (hk : ZD y.toNat = 6) : scanL l (k : Int) = (restO (l.drop k)).map fun t => (t.1, k + t.2) := by
 unfold scanL restO oneR
 rw [if_pos (by omega), drop_at, h]
 simp only
 rw [if_neg (by omega), if_neg (by omega), if_neg (by omega), if_pos hk, Int.toNat_natCast]
 cases litO (l.drop k) with
 | none => rfl
 | some t => rfl
theorem oneR_rest {r : List UInt8} {y : UInt8} (h : r[0]? = some y) (hk : ZD y.toNat ≠ 0) : oneR r = (restO r).map fun t => (ZD y.toNat, t) := by
 unfold restO oneR
 rw [h]
 simp only
 rw [if_neg hk]
 by_cases h4 : ZD y.toNat = 4
 · rw [if_pos h4, h4]; rfl
 · rw [if_neg h4]
   by_cases h5 : ZD y.toNat = 5
   · rw [if_pos h5, h5]
     cases ZL (r.drop 1) <;> rfl
   · rw [if_neg h5]
     by_cases h6 : ZD y.toNat = 6
     · rw [if_pos h6, h6]
       cases litO r <;> rfl
     · rw [if_neg h6]; rfl
theorem oneR_none {r : List UInt8} {y : UInt8} (h : r[0]? = some y) (hk : ZD y.toNat = 0) : oneR r = none := by
 unfold oneR
 rw [h]
 simp only
 rw [if_pos hk]
theorem rdF_any (bs c : Nat) (A : Option Addr) (l : List UInt8) (k : Nat) (y : UInt8) (hy : l[k]? = some y) (hk : ZD y.toNat ≠ 0) (hl : l.length ≤ 1000000) (w : World) (henv : Env w) (h : Rd bs A c l (k : Int) w) :
 Calls Tryz.prog (rdF (ZD y.toNat)) #[.pointer (some ⟨bs, 0, none⟩)] w (RdPost bs c A l k (restO (l.drop k)) w) := by
 have hlt := (List.getElem?_eq_some_iff.1 hy).1
 have hy0 : (l.drop k)[0]? = some y := by rw [drop_at]; exact hy
 have hle := kindN_le y.toNat
 by_cases h3 : ZD y.toNat ≤ 3
 · rw [restO_mark hy0 (by omega)]
   unfold rdF
   rw [if_pos h3]
   exact (mark_any bs c A l k (by omega) w h).mono fun e w' ⟨a, b, d⟩ => ⟨d, .inl ⟨_, _, rfl, a, b.out⟩⟩
 · by_cases h4 : ZD y.toNat = 4
   · rw [restO_word hy0 h4]
     unfold rdF
     rw [if_neg h3, if_pos h4]
     exact (word_any bs c A l k (by omega) hl w h).mono fun e w' ⟨a, b, d⟩ => ⟨d, .inl ⟨_, _, rfl, a, b.out⟩⟩
   · by_cases h5 : ZD y.toNat = 5
     · unfold rdF
       rw [if_neg h3, if_neg h4, if_pos h5]
       exact quoted_rd bs c A l k (restO (l.drop k)) hl w henv h (by omega) (scanQ_rest hy h5)
     · have h6 : ZD y.toNat = 6 := by omega
       unfold rdF
       rw [if_neg h3, if_neg h4, if_neg h5]
       exact literal_rd bs c A l k (restO (l.drop k)) hl w henv h (by omega) (scanL_rest hy h6)
theorem enters_rdF (k : Nat) (args : Array Value) (w : World) : (callFunc (rdF k) args).run Tryz.prog w = .ok (.enter (rdF k) args) w := by
 unfold rdF
 split
 · kernel_rfl
 · split
   · kernel_rfl
   · split <;> kernel_rfl
end Go.Proofs.YtpgfnlhfciacoaaGreatDoor
