import Derived.Test.YtpgfnlhfciacoaaGreatDoorPHe
import Derived.Test.YtpgfnlhfciacoaaGreatDoorPGs
import Derived.Test.YtpgfnlhfciacoaaGreatDoorPKf
set_option maxRecDepth 100000
set_option maxHeartbeats 4000000
open Go.Lib renaming hid → Hi
namespace Go.Proofs.YtpgfnlhfciacoaaGreatDoor
inductive RdF : List Fr → List Cmd → Prop
 | nil : RdF [] []
 | skip {fs : List Fr} {cs : List Cmd} {f : Fr} : RdF fs cs → f.kind = 2 → RdF (fs ++ [f]) cs
 | take {fs : List Fr} {cs : List Cmd} {f : Fr} {c : Cmd} : RdF fs cs → f.kind = 1 → IsCmd f.data c true → RdF (fs ++ [f]) (cs ++ [c])
def RdBad (fs : List Fr) : Prop := ∃ (k : Nat) (cs : List Cmd) (h : k < fs.length), RdF (fs.take k) cs ∧ fs[k].kind ≠ 2 ∧ ∃ c b, IsCmd fs[k].data c b ∧ (fs[k].kind ≠ 1 ∨ b = false)
theorem RdF.det {fs : List Fr} {cs ds : List Cmd} (h : RdF fs cs) (h2 : RdF fs ds) : cs = ds := by
 induction h generalizing ds with
 | nil =>
   generalize he : ([] : List Fr) = gs at h2
   cases h2 with
   | nil => rfl
   | skip _ _ => exact absurd he (by simp)
   | take _ _ _ => exact absurd he (by simp)
 | @skip fs cs f h hk ih =>
   generalize he : fs ++ [f] = gs at h2
   cases h2 with
   | nil => exact absurd he (by simp)
   | skip h3 _ =>
     obtain ⟨rfl, e⟩ := List.append_inj' he rfl
     exact ih h3
   | take h3 hk1 _ =>
     obtain ⟨rfl, e⟩ := List.append_inj' he rfl
     injection e with e _
     subst e
     omega
 | @take fs cs f c h hk hc ih =>
   generalize he : fs ++ [f] = gs at h2
   cases h2 with
   | nil => exact absurd he (by simp)
   | skip h3 hk1 =>
     obtain ⟨rfl, e⟩ := List.append_inj' he rfl
     injection e with e _
     subst e
     omega
   | take h3 _ hd =>
     obtain ⟨rfl, e⟩ := List.append_inj' he rfl
     injection e with e _
     subst e
     rw [ih h3, (hc.det hd).1]
theorem RdF.each {fs : List Fr} {cs : List Cmd} (h : RdF fs cs) : ∀ f ∈ fs, f.kind = 2 ∨ (f.kind = 1 ∧ ∃ c, IsCmd f.data c true) := by
 induction h with
 | nil => intro f hf; cases hf
 | skip _ hk ih =>
   intro f hf
   rcases List.mem_append.1 hf with hf | hf
   · exact ih f hf
   · obtain rfl := List.mem_singleton.1 hf
     exact .inl hk
 | take _ hk hc ih =>
   intro f hf
   rcases List.mem_append.1 hf with hf | hf
   · exact ih f hf
   · obtain rfl := List.mem_singleton.1 hf
     exact .inr ⟨hk, _, hc⟩
theorem RdF.notBad {fs : List Fr} {cs : List Cmd} (h : RdF fs cs) : ¬ RdBad fs := by
 rintro ⟨k, ds, hk, _, h2, c, b, hc, h3⟩
 rcases h.each _ (List.getElem_mem hk) with h4 | ⟨h4, d, hd⟩
 · exact h2 h4
 · rcases h3 with h3 | rfl
   · exact h3 h4
   · exact absurd (hc.det hd).2 (by decide)
theorem RdF.append {fs gs : List Fr} {cs ds : List Cmd} (h : RdF fs cs) (h2 : RdF gs ds) : RdF (fs ++ gs) (cs ++ ds) := by
 induction h2 with
 | nil => simpa using h
 | skip _ hk ih => rw [← List.append_assoc]; exact ih.skip hk
 | take _ hk hc ih => rw [← List.append_assoc, ← List.append_assoc]; exact ih.take hk hc
section
open Go.RowKit
def OffS (r : Option Nat) (A : Option Addr) : Prop := ∀ b off s, A = some ⟨b, off, s⟩ → some b ≠ r
theorem SlAt.kept {α : Type} {enc : α → List Value} {k : Nat} {w w' : World} {r : Option Nat} {A : Option Addr} {l : List α} (h : SlAt enc k w A l) (ho : l = [] ∨ OffS r A) (hg : w.grownBy w' r) : SlAt enc k w' A l := by
 rcases h with h | ⟨b, off, hA, hlt, hc⟩
 · exact .inl h
 · rcases ho with h | ho
   · exact .inl h
   · exact .inr ⟨b, off, hA, Nat.lt_of_lt_of_le hlt hg.size, fun j x hj i v hi => (World.cell?_of_block (hg.block b hlt (ho _ _ _ hA))).trans (hc j x hj i v hi)⟩
theorem SlAt.fresh {α : Type} {enc : α → List Value} {k : Nat} {w : World} {A : Option Addr} {l : List α} (h : SlAt enc k w A l) : l = [] ∨ OffS (some w.heap.size) A := by
 rcases h with h | ⟨b, off, hA, hlt, hc⟩
 · exact .inl h
 · refine .inr fun b' off' s' e => ?_
   rw [hA] at e
   injection e with e
   injection e with e1 e2 e3
   intro h2
   injection h2 with h2
   omega
theorem NewS.off {n r : Nat} {A : Option Addr} {m k : Nat} (h : NewS n (.slice A m k)) (hr : r < n) : OffS (some r) A := by
 intro b off s e h2
 have := h b off s m k (by rw [e])
 injection h2 with h2
 omega
structure RowC (w : World) (r : Option Nat) (x : CX) : Prop where
 s : SlAt encR 2 w x.A1 x.c.set
 d : SlAt encB 1 w x.A2 x.c.data
 l : x.c.data.length ≤ x.k2
 so : x.c.set = [] ∨ OffS r x.A1
 do_ : x.c.data = [] ∨ OffS r x.A2
structure RowX (base : Nat) (w : World) (v : Value) (xs : List CX) : Prop where
 own : w.ownsRow base 26 9 v xs.length (YF encX xs)
 each : ∀ x ∈ xs, RowC w v.ownBlock x
theorem RowX.nil (base : Nat) (w : World) : RowX base w (.slice none 0 0) [] := ⟨World.ownsRow_nil _ _ _ _, fun x hx => by cases hx⟩
theorem RowC.below {w W : World} {r : Option Nat} {x : CX} (h : RowC w r x) (hb : Below w.heap.size w W) : RowC W r x := ⟨h.s.below hb, h.d.below hb, h.l, h.so, h.do_⟩
theorem RowX.below {base : Nat} {w W : World} {v : Value} {xs : List CX} (h : RowX base w v xs) (hb : Below w.heap.size w W) : RowX base W v xs := ⟨ZP h.own hb, fun x hx => (h.each x hx).below hb⟩
theorem RowC.kept {w W : World} {r r2 : Option Nat} {x : CX} (h : RowC w r x) (hg : w.grownBy W r) (hf : r2 = r ∨ r2 = some w.heap.size) : RowC W r2 x := by
 refine ⟨h.s.kept h.so hg, h.d.kept h.do_ hg, h.l, ?_, ?_⟩
 · rcases hf with rfl | rfl
   · exact h.so
   · exact h.s.fresh
 · rcases hf with rfl | rfl
   · exact h.do_
   · exact h.d.fresh
theorem RowX.blk {base : Nat} {w : World} {v : Value} {xs : List CX} (h : RowX base w v xs) {n : Nat} (hn : w.heap.size ≤ n) : v.ownBlock = none ∨ ∃ r, v.ownBlock = some r ∧ r < n := by
 cases hv : v.ownBlock with
 | none => exact .inl rfl
 | some r => exact .inr ⟨r, rfl, Nat.lt_of_lt_of_le (h.own.lt r hv).2 hn⟩
theorem RowX.snoc {base : Nat} {wr W w2 : World} {v v' : Value} {xs : List CX} {x : CX} (h : RowX base wr v xs) (hB : Below wr.heap.size wr W) (hs : SlAt encR 2 W x.A1 x.c.set) (hd : SlAt encB 1 W x.A2 x.c.data) (hl : x.c.data.length ≤ x.k2)
 {m1 j1 m2 j2 : Nat} (n1 : NewS wr.heap.size (.slice x.A1 m1 j1)) (n2 : NewS wr.heap.size (.slice x.A2 m2 j2))
 (hO : w2.ownsRow base 26 9 v' (xs.length + 1) (YF encX xs ++ YF encX [x])) (hg : W.grownBy w2 v.ownBlock) (hf : v'.ownBlock = v.ownBlock ∨ v'.ownBlock = some W.heap.size) : RowX base w2 v' (xs ++ [x]) := by
 refine ⟨?_, fun y hy => ?_⟩
 · rw [ZR, List.length_append]
   exact hO
 · rcases List.mem_append.1 hy with hy | hy
   · exact ((h.each y hy).below hB).kept hg hf
   · obtain rfl := List.mem_singleton.1 hy
     have hc : RowC W v.ownBlock y := by
      refine ⟨hs, hd, hl, ?_, ?_⟩
      · rcases h.blk (Nat.le_refl _) with h0 | ⟨r, h0, hr⟩
        · exact .inr (by rw [h0]; exact fun b off s _ h2 => by cases h2)
        · exact .inr (by rw [h0]; exact n1.off hr)
      · rcases h.blk (Nat.le_refl _) with h0 | ⟨r, h0, hr⟩
        · exact .inr (by rw [h0]; exact fun b off s _ h2 => by cases h2)
        · exact .inr (by rw [h0]; exact n2.off hr)
     exact hc.kept hg hf
theorem RowX.xsAt {base n c : Nat} {w : World} {A : Option Addr} {xs : List CX} (h : RowX base w (.slice A n c) xs) (hn : n = xs.length) : XsAt w A xs := by
 subst hn
 exact ⟨SlAt.of_own encX_len h.own, fun x hx => ⟨(h.each x hx).s, ByAt.of_sl (h.each x hx).d (h.each x hx).l⟩⟩
theorem one_flatX (xs : List CX) : ∀ u ∈ YF encX xs, u.oneCell' = true := by
 intro u hu
 obtain ⟨x, _, hx⟩ := List.mem_flatMap.1 hu
 unfold encX at hx
 simp only [List.mem_cons, List.not_mem_nil, or_false] at hx
 rcases hx with rfl | rfl | rfl | rfl | rfl | rfl | rfl | rfl | rfl <;> rfl
section
variable {α : Type} {enc : α → List Value} {size : Nat} {P : Program} (w : World)
theorem wpList_append_slf {ops : Array Oper} {rest : List Oper} {o : Oper} {a : Act} {Q : Exit → Act → World → Prop} (hgd : o.guard = none) (s x : Operand) (t : TypeId)
 (ho : o.op = .call { callee := .builtin .append, args := #[s, x], argTypes := #[t, t] })
 (base : Nat) (e : TypeId) (i : TypeInfo) (z : Value) (bytes : Nat) (ht : P.underlying t = some (.slice e)) (hi : P.info? e = some i) (hz : i.zero = some z)
 (hsize : i.size = size) (hby : i.bytes = bytes) (hzs : z.cells.size = size) (hsz : 0 < size)
 (v : Value) (n : Nat) (xs : List Value) (hs : a.eval s = v) (hown : w.ownsRow base e size v n xs)
 (ad : Addr) (l : List α) (c : Nat) (hx : a.eval x = .slice (some ad) l.length c) (hk : ∀ x, (enc x).length = size) (hS : SlAt enc size w (some ad) l) (h1 : ∀ u ∈ YF enc l, u.oneCell' = true)
 (h63 : n + l.length ≤ maxLen) (hbytes : (n + l.length) * bytes ≤ 140737488355328) (hbase : base ≤ w.heap.size)
 (h : ∀ v' w', w'.ownsRow base e size v' (n + l.length) (xs ++ YF enc l) → w.grownBy w' v.ownBlock → (v'.ownBlock = v.ownBlock ∨ v'.ownBlock = some w.heap.size) → wpList P ops Q rest (a.put o.dst v') w') : wpList P ops Q (o :: rest) a w := by
 have hcells : ∀ j u, (YF enc l)[j]? = some u → w.cell? (ad.add j) = some u := by
  intro j u hu
  rcases hS with rfl | ⟨b, off, hA, _, hc⟩
  · simp [YF] at hu
  · injection hA with hA
    subst hA
    obtain ⟨q, r, x, rfl, h2, h3⟩ := flatL_find hk l j u hu
    have := hc q x h2 r u h3
    rw [Addr.add_lit, ← Nat.add_assoc]
    exact this
 obtain ⟨v', w', hrun, h2, h3, _, h4⟩ := run_append_own_at (P := P) w base t o.type e i z size bytes ht hi hz hsize hby hzs hsz v n xs hown ad l.length c (YF enc l) (flatL_length hk l) hcells h1 h63 hbytes hbase
 refine wpList_plain hgd fun K hK => ?_
 unfold Oper.wp execOp
 simp only [ho, resolve, invoke, builtin, Sem.run_bind, Sem.run_pure, Result.andThen_ok, List.map_toArray, List.map_cons, List.map_nil, hs, hx, hrun]
 exact hK _ _ (h v' w' h2 h3 h4)
end
theorem infoC8 : (Tryz.prog.info? 26).map (fun i => (i.zero, i.size, i.bytes)) = some (some (.agg #[.string ⟨#[]⟩, .int .i64 0, .string ⟨#[]⟩, .slice none 0 0, .int .i64 0, .int .i64 0, .bool false, .int .u8 0, .slice none 0 0]), 9, 112) := by kernel_rfl
theorem NewV.both {n : Nat} {c : Cmd} {sv dv : Value} (h : NewV n (.agg (cmdA c sv dv))) : NewS n sv ∧ NewS n dv := by
 obtain ⟨c', sv', dv', he, h1, h2⟩ := h
 have he' : cmdA c sv dv = cmdA c' sv' dv' := by injection he
 have e1 : sv = sv' := by
  have := congrArg (fun a => a[3]?) he'
  simpa [cmdA] using this
 have e2 : dv = dv' := by
  have := congrArg (fun a => a[8]?) he'
  simpa [cmdA] using this
 subst e1 e2
 exact ⟨h1, h2⟩
theorem slAt_oneX (w : World) (x : CX) (T : TypeId) : SlAt encX 9 (w.alloc (.cells (encX x).toArray T)) (some ⟨w.heap.size, 0, none⟩) [x] := by
 refine .inr ⟨w.heap.size, 0, rfl, by simp, fun j y hj i u hi => ?_⟩
 have hj0 : j = 0 := by
  have := (List.getElem?_eq_some_iff.1 hj).1
  simpa using this
 subst hj0
 obtain rfl : x = y := by simpa using hj
 rw [Joins.cell_alloc_mark_at w _ _ _ _ _ rfl]
 simpa using hi
def CrPost (l : List UInt8) (w : World) (e : Ending) (w' : World) : Prop :=
 ∃ fs R d, Runs l 0 fs R d ∧ Done R d ∧
  ((R.length = 0 ∧ ∃ xs cs A c, RdF fs cs ∧ xs.map (fun (x : CX) => x.c) = cs.map ciOf ∧ e = .returned (.tuple #[.slice A xs.length c, .bool true]) ∧ XsAt w' A xs ∧ Below w.heap.size w w') ∨
   ((0 < R.length ∨ RdBad fs) ∧ e = .returned (.tuple #[.slice none 0 0, .bool false]) ∧ Below w.heap.size w w'))
theorem cread_any (B c n : Nat) (A : Option Addr) (l : List UInt8) (hn : l.length = n) (hl : n ≤ 1000000) (hsh : Short l) (hfr : ∀ fs R d, Runs l 0 fs R d → Done R d → ∀ f ∈ fs, f.data.length ≤ 9000) (w : World) (he : EnvB w.heap.size w) (hA : ByAt B w A c l) :
 Calls Tryz.prog 19 #[.slice A n c] w (CrPost l w) := by
 obtain ⟨i0, hi, hz0, hz1, hz2⟩ := info_parts infoC8
 have SP := Hi (split_any B c n A l hn hl hsh w he hA)
 have HE := Hi he
 have HFR := Hi hfr
 have HL0 : Hid (l.length ≤ 1000000) := Hi (by rw [hn]; exact hl)
 have HCN : Hid (∀ fs R d, Runs l 0 fs R d → fs.length ≤ 500000) := Hi (fun fs R d h => frs_count2 h (by rw [hn]; exact hl))
 clear hn hfr hA he hsh
 go_enter Tryz.func19, Tryz.ntmps19
 go_wp2_with fail
 refine SP.out.mono ?_
 rintro e w1 ⟨v, vs, fs, R, d, rfl, ho, hf, hb, hR, hD⟩
 obtain ⟨Av, cv, rfl⟩ := YV ho
 have HFS := Hi (FsAt.of_own ho hf)
 have HB1 := Hi hb
 have HSM := Hi (HFR.out fs R d hR hD)
 have HR := Hi hR
 have HD := Hi hD
 have hcn := HCN.out fs R d hR
 obtain ⟨m, hm⟩ : ∃ m, fs.length = m := ⟨_, rfl⟩
 obtain ⟨q, hq⟩ : ∃ q, R.length = q := ⟨_, rfl⟩
 rw [hm] at hcn ⊢
 rw [hq]
 have HM := Hi hm
 have HQ := Hi hq
 have hqb : q ≤ 1000000 := by have := HQ.out; have := hR.len.2.1; have := HL0.out; omega
 clear ho hf hb hR hD hm hq SP HFR HCN
 by_cases hq0 : 0 < q
 · have d1 : decide ((0 : Int) < (q : Int)) = true := by simp; omega
   have d2 : decide (0 < q) = true := by simpa using hq0
   have HF := Hi (show 0 < R.length by rw [HQ.out]; exact hq0)
   clear hq0
   go_wp2_with fail
   go_ret2
   exact ⟨fs, R, d, HR.out, HD.out, .inr ⟨.inl HF.out, rfl, HB1.out⟩⟩
 have d1 : decide ((0 : Int) < (q : Int)) = false := decide_eq_false (by omega)
 have d2 : decide (0 < q) = false := decide_eq_false hq0
 have HR0 := Hi (show R.length = 0 by rw [HQ.out]; omega)
 clear hq0
 go_wp2_with fail
 go_loopw [6, 20] (fun v i wr => ∃ (k p : Nat) (Ao : Option Addr) (co : Nat) (xs : List CX) (cs : List Cmd), k ≤ m ∧ i = .int .i64 (k : Int) ∧ v = .slice Ao p co ∧ p ≤ k ∧ Hid (xs.length = p) ∧ Hid (RdF (fs.take k) cs) ∧ Hid (xs.map (fun (x : CX) => x.c) = cs.map ciOf) ∧ Hid (RowX w1.heap.size wr (.slice Ao p co) xs) ∧ Hid (Below w1.heap.size w1 wr)) (fun _ i _ => m - (intOf i).toNat)
 case atStart => exact ⟨0, 0, none, 0, [], [], Nat.zero_le _, rfl, rfl, Nat.le_refl _, Hi rfl, Hi .nil, Hi rfl, Hi (RowX.nil _ _), Hi (Below.refl _ _)⟩
 case round =>
  obtain ⟨k, p, Ao, co, xs, cs, hk, rfl, rfl, hpk, hXL, hRD, hXC, hO, hB⟩ := hrel
  by_cases hlt : k < m
  · have hlx : k < fs.length := by rw [HM.out]; exact hlt
    obtain ⟨b, off, Ad, cd, rfl, hbl, c0, c1, hby⟩ := (HFS.out.below hB.out).at hlx
    have hk0 : (0 : Int) ≤ (k : Int) := by omega
    have hk1 : (k : Int) < (m : Int) := by omega
    have CM := Hi (fun W (hW : Below wr.heap.size wr W) => command_any wr.heap.size cd Ad fs[k].data (HSM.out _ (List.getElem_mem hlx)) W ((HE.out.below (YA HB1.out (YA hB.out hW))).env) (hby.below hW))
    have HTK := Hi (List.take_succ_eq_append_getElem hlx)
    have HSK := Hi (fun (h2 : fs[k].kind = 2) => (show RdF (fs.take (k + 1)) cs by rw [HTK.out]; exact hRD.out.skip h2))
    have HTA := Hi (fun (c : Cmd) (h2 : fs[k].kind = 1) (hc : IsCmd fs[k].data c true) => (show RdF (fs.take (k + 1)) (cs ++ [c]) by rw [HTK.out]; exact hRD.out.take h2 hc))
    have HBA := Hi (fun (c : Cmd) (b : Bool) (h0 : fs[k].kind ≠ 2) (hc : IsCmd fs[k].data c b) (h : fs[k].kind ≠ 1 ∨ b = false) => (show RdBad fs from ⟨k, cs, hlx, hRD.out, h0, c, b, hc, h⟩))
    clear hby HTK
    generalize fs[k].data = D at *
    generalize D.length = dl at *
    generalize fs[k].kind = kd at *
    have HALF := Hi (YB wr (.cells #[.int .i64 (kd : Int), .slice Ad dl cd] 62))
    have HRF := Hi (YD wr (.cells #[.int .i64 (kd : Int), .slice Ad dl cd] 62))
    have HZF : Hid (_ = wr.heap.size + 1) := Hi (World.size_alloc wr (.cells #[.int .i64 (kd : Int), .slice Ad dl cd] 62))
    go_upto_region 8 with (fail)
    generalize wr.alloc (.cells #[.int .i64 (kd : Int), .slice Ad dl cd] 62) = W2 at *
    clear c0 c1
    have c0 := cell_of_row _ _ 0 _ _ _ HRF.out
    have c1 := cell_of_row _ _ 1 _ _ _ HRF.out
    have HBF := Hi (YA hB.out HALF.out)
    have HOF := Hi (hO.out.below HALF.out)
    have CM2 := Hi (CM.out W2 HALF.out)
    clear CM
    by_cases hk2 : kd = 2
    · have ht : (((kd : Nat) : Int) == 2) = true := by rw [hk2]; rfl
      have HN := Hi (HSK.out hk2)
      clear hk2 CM2 HSK HTA HBA
      go_wp2_with fail
      go_roundw
      case rel => exact ⟨k + 1, p, Ao, co, xs, cs, by omega, by go_num, rfl, by omega, hXL, HN, hXC, HOF, HBF⟩
      case measure => simp [intOf]; omega
    · have ht : (((kd : Nat) : Int) == 2) = false := by
       rw [beq_eq_false_iff_ne]
       omega
      have HK2 := Hi hk2
      clear hk2 HSK
      go_wp2_with fail
      refine CM2.out.mono ?_
      rintro e w2 ⟨cm, bb, v2, hcm, rfl, ⟨hv, hnv⟩, hb2⟩
      obtain ⟨sv, dv, rfl, ⟨A1, j1, rfl, l1, s1⟩, A2, j2, rfl, l2, s2⟩ := hv
      obtain ⟨n1', n2'⟩ := hnv.both
      have hle := HALF.out.size
      have n1 : NewS wr.heap.size (.slice A1 cm.set.length j1) := fun b off s n k e => Nat.le_trans hle (n1' b off s n k e)
      have n2 : NewS wr.heap.size (.slice A2 cm.data.length j2) := fun b off s n k e => Nat.le_trans hle (n2' b off s n k e)
      clear n1' n2' hle
      have C0 := Hi ((hb2.cell (p := ⟨wr.heap.size, 0, none⟩) (by show wr.heap.size < _; rw [HZF.out]; omega)).trans c0)
      have HBL := Hi (show wr.heap.size < w2.heap.size by have := HZF.out; have := hb2.size; omega)
      have HB2 := Hi (YA HBF.out hb2)
      have HW := Hi (YA HALF.out hb2)
      have HC := Hi hcm
      have S1 := Hi s1
      have S2 := Hi s2
      have N1 := Hi n1
      have N2 := Hi n2
      have L2 := Hi l2
      have HBB := Hi (fun (h : kd ≠ 1 ∨ bb = false) => HBA.out cm bb HK2.out hcm h)
      clear hnv n1 n2 s1 s2 l1 l2 hcm CM2 hb2 hbl c0 c1 HBA HK2 ht HRF HZF HALF HBF
      unfold cmdA
      have HAL := Hi (YB w2 (.cells #[.string ⟨cm.tag.toArray⟩, .int .i64 (cm.kind : Int), .string ⟨cm.mbox.toArray⟩, .slice A1 cm.set.length j1, .int .i64 (cm.items : Int), .int .i64 (cm.mode : Int), .bool cm.silent, .int .u8 (cm.flags : Int), .slice A2 cm.data.length j2] 26))
      have HBK := Hi (YD w2 (.cells #[.string ⟨cm.tag.toArray⟩, .int .i64 (cm.kind : Int), .string ⟨cm.mbox.toArray⟩, .slice A1 cm.set.length j1, .int .i64 (cm.items : Int), .int .i64 (cm.mode : Int), .bool cm.silent, .int .u8 (cm.flags : Int), .slice A2 cm.data.length j2] 26))
      go_upto_region 10 with (fail)
      generalize w2.alloc (.cells #[.string ⟨cm.tag.toArray⟩, .int .i64 (cm.kind : Int), .string ⟨cm.mbox.toArray⟩, .slice A1 cm.set.length j1, .int .i64 (cm.items : Int), .int .i64 (cm.mode : Int), .bool cm.silent, .int .u8 (cm.flags : Int), .slice A2 cm.data.length j2] 26) = W3 at *
      have c0 := (HAL.out.cell (p := ⟨wr.heap.size, 0, none⟩) HBL.out).trans C0.out
      have HB3 := Hi (YA HB2.out HAL.out)
      by_cases hk1' : kd = 1
      · have t1 : (((kd : Nat) : Int) == 1) = true := by rw [hk1']; rfl
        have t2 : (((kd : Nat) : Int) != 1) = false := by rw [hk1']; rfl
        have HK1 := Hi hk1'
        clear hk1'
        cases bb with
        | false =>
          have HF := Hi (HBB.out (.inr rfl))
          clear HBB
          go_wp2_with fail
          go_ret2
          exact ⟨fs, R, d, HR.out, HD.out, .inr ⟨.inr HF.out, rfl, YA HB1.out HB3.out⟩⟩
        | true =>
          have HT := Hi (HTA.out cm HK1.out HC.out)
          have HWW := Hi (YA (YA HW.out HAL.out) (YB W3 (.cells #[.string ⟨cm.tag.toArray⟩, .int .i64 (cm.kind : Int), .string ⟨cm.mbox.toArray⟩, .slice A1 cm.set.length j1, .int .i64 (cm.items : Int), .int .i64 (cm.mode : Int), .bool cm.silent, .int .u8 (cm.flags : Int), .slice A2 cm.data.length j2] 26)))
          have HO4 := Hi (hO.out.below HWW.out).own
          rw [hXL.out] at HO4
          have HSX := Hi (slAt_oneX W3 ⟨ciOf cm, A1, A2, j1, j2⟩ 26)
          have HSZ := Hi (YA HB3.out (YB W3 (.cells #[.string ⟨cm.tag.toArray⟩, .int .i64 (cm.kind : Int), .string ⟨cm.mbox.toArray⟩, .slice A1 cm.set.length j1, .int .i64 (cm.items : Int), .int .i64 (cm.mode : Int), .bool cm.silent, .int .u8 (cm.flags : Int), .slice A2 cm.data.length j2] 26))).size
          have HA3 := Hi (YA HAL.out (YB W3 (.cells #[.string ⟨cm.tag.toArray⟩, .int .i64 (cm.kind : Int), .string ⟨cm.mbox.toArray⟩, .slice A1 cm.set.length j1, .int .i64 (cm.items : Int), .int .i64 (cm.mode : Int), .bool cm.silent, .int .u8 (cm.flags : Int), .slice A2 cm.data.length j2] 26)))
          have HB4 := Hi (YA HB3.out (YB W3 (.cells #[.string ⟨cm.tag.toArray⟩, .int .i64 (cm.kind : Int), .string ⟨cm.mbox.toArray⟩, .slice A1 cm.set.length j1, .int .i64 (cm.items : Int), .int .i64 (cm.mode : Int), .bool cm.silent, .int .u8 (cm.flags : Int), .slice A2 cm.data.length j2] 26)))
          obtain ⟨x0, x1, x2, x3, x4, x5, x6, x7, x8⟩ := ZS HBK.out
          have h63 : p + 1 ≤ maxLen := by unfold maxLen; omega
          have hbyt : (p + 1) * 112 ≤ 140737488355328 := by omega
          have H63 := Hi h63
          have HBYT := Hi hbyt
          clear h63 hbyt HBB HTA
          go_wp2_with (at_builtin; refine wpList_append_slf _ rfl _ _ 33 rfl w1.heap.size 26 i0 _ 112 Tryz.underlying33 hi hz0 hz1 hz2 rfl (by decide) _ p _ rfl HO4.out _ [(⟨ciOf cm, A1, A2, j1, j2⟩ : CX)] _ rfl encX_len HSX.out (one_flatX _) H63.out HBYT.out HSZ.out ?_; intro vv w3 hown3 hg3 hf3)
          obtain ⟨A3, c3, rfl⟩ := YV hown3
          have RX := Hi (hO.out.snoc HWW.out (x := ⟨ciOf cm, A1, A2, j1, j2⟩) (S1.out.below HA3.out) (S2.out.below HA3.out) L2.out N1.out N2.out (by rw [hXL.out]; exact hown3) hg3 hf3)
          have HB5 := Hi (HB4.out.grown hg3 HSZ.out (fun kk hkk => (HO4.out.lt kk hkk).1))
          have HX1 := Hi (show (xs ++ [(⟨ciOf cm, A1, A2, j1, j2⟩ : CX)]).length = p + 1 by rw [List.length_append, hXL.out]; rfl)
          have HX2 := Hi (show (xs ++ [(⟨ciOf cm, A1, A2, j1, j2⟩ : CX)]).map (fun (x : CX) => x.c) = (cs ++ [cm]).map ciOf by rw [List.map_append, List.map_append, hXC.out]; rfl)
          clear hown3 hg3 hf3
          go_roundw
          case rel => exact ⟨k + 1, p + 1, A3, c3, _, _, by omega, by go_num, rfl, by omega, HX1, HT, HX2, RX, HB5⟩
          case measure => simp [intOf]; omega
      · have t1 : (((kd : Nat) : Int) == 1) = false := by
         rw [beq_eq_false_iff_ne]
         omega
        have t2 : (((kd : Nat) : Int) != 1) = true := by
         rw [bne_iff_ne]
         omega
        have HF := Hi (HBB.out (.inl hk1'))
        clear HBB hk1'
        go_wp2_with fail
        go_ret2
        exact ⟨fs, R, d, HR.out, HD.out, .inr ⟨.inr HF.out, rfl, YA HB1.out HB3.out⟩⟩
  · obtain rfl : k = m := by omega
    have ht : fs.take k = fs := List.take_of_length_le (by rw [HM.out]; exact Nat.le_refl _)
    have HRD := Hi (show RdF fs cs by have := hRD.out; rwa [ht] at this)
    clear ht hRD
    go_wp2_with fail
    go_ret2
    exact ⟨fs, R, d, HR.out, HD.out, .inl ⟨HR0.out, xs, cs, Ao, co, HRD.out, hXC.out, by rw [hXL.out]; rfl, hO.out.xsAt hXL.out.symm, YA HB1.out hB.out⟩⟩
end
end Go.Proofs.YtpgfnlhfciacoaaGreatDoor
