/- reply: All. -/
import Derived.Test.YtpoejnajnaolpaaGreatDoorRpPa
import Derived.Test.YtpoejnajnaolpaaGreatDoorRsFew
import Derived.Test.YtpoejnajnaolpaaGreatDoorGa
namespace Go.Proofs.YtpoejnajnaolpaaGreatDoor
open Go.RowKit

/-- A slice that does not lie in block r. -/
def OffS (r : Option Nat) (A : Option Addr) : Prop := ∀ b off s, A = some ⟨b, off, s⟩ → some b ≠ r
theorem SlAt.kept {α : Type} {enc : α → List Value} {k : Nat} {w w' : World} {r : Option Nat} {A : Option Addr} {l : List α} (h : SlAt enc k w A l) (ho : l = [] ∨ OffS r A) (hg : w.grownBy w' r) : SlAt enc k w' A l := by
  rcases h with h | ⟨b, off, hA, hlt, hc⟩
  · exact .inl h
  · rcases ho with h | ho
    · exact .inl h
    · exact .inr ⟨b, off, hA, Nat.lt_of_lt_of_le hlt hg.size, fun j x hj i v hi => (World.cell?_of_block (hg.block b hlt (ho _ _ _ hA))).trans (hc j x hj i v hi)⟩
theorem SlAt.fresh {α : Type} {enc : α → List Value} {k : Nat} {w : World} {A : Option Addr} {l : List α} (h : SlAt enc k w A l) : l = [] ∨ OffS (some w.heap.size) A := by
  rcases h with h | ⟨b, off, hA, hlt, hc⟩
  · exact .inl h
  · refine .inr fun b' off' s' e => ?_
    rw [hA] at e
    injection e with e
    injection e with e1 e2 e3
    intro h2
    injection h2 with h2
    omega
/-- What is known of one response that was gathered. -/
structure RowQ (w : World) (r : Option Nat) (x : RX) : Prop where
  d : SlAt encB 1 w x.A x.r.body
  l : x.r.body.length ≤ x.k
  do_ : x.r.body = [] ∨ OffS r x.A
/-- The own row of the responses that were gathered. -/
structure RowR (base : Nat) (w : World) (v : Value) (xs : List RX) : Prop where
  own : w.ownsRow base 27 10 v xs.length (flatL encRx xs)
  each : ∀ x ∈ xs, RowQ w v.ownBlock x
theorem RowR.nil (base : Nat) (w : World) : RowR base w (.slice none 0 0) [] := ⟨World.ownsRow_nil _ _ _ _, fun x hx => by cases hx⟩
theorem RowQ.below {w W : World} {r : Option Nat} {x : RX} (h : RowQ w r x) (hb : Below w.heap.size w W) : RowQ W r x := ⟨h.d.below hb, h.l, h.do_⟩
theorem RowR.below {base : Nat} {w W : World} {v : Value} {xs : List RX} (h : RowR base w v xs) (hb : Below w.heap.size w W) : RowR base W v xs := ⟨own_below h.own hb, fun x hx => (h.each x hx).below hb⟩
theorem RowQ.kept {w W : World} {r r2 : Option Nat} {x : RX} (h : RowQ w r x) (hg : w.grownBy W r) (hf : r2 = r ∨ r2 = some w.heap.size) : RowQ W r2 x := by
  refine ⟨h.d.kept h.do_ hg, h.l, ?_⟩
  rcases hf with rfl | rfl
  · exact h.do_
  · exact h.d.fresh
/-- One response more. -/
theorem RowR.snoc {base : Nat} {wr W w2 : World} {v v' : Value} {xs : List RX} {x : RX} (h : RowR base wr v xs) (hB : Below wr.heap.size wr W) (hd : SlAt encB 1 W x.A x.r.body) (hl : x.r.body.length ≤ x.k)
    (n1 : x.r.body = [] ∨ OffS v.ownBlock x.A)
    (hO : w2.ownsRow base 27 10 v' (xs.length + 1) (flatL encRx xs ++ flatL encRx [x])) (hg : W.grownBy w2 v.ownBlock) (hf : v'.ownBlock = v.ownBlock ∨ v'.ownBlock = some W.heap.size) : RowR base w2 v' (xs ++ [x]) := by
  refine ⟨?_, fun y hy => ?_⟩
  · rw [flatL_append, List.length_append]
    exact hO
  · rcases List.mem_append.1 hy with hy | hy
    · exact ((h.each y hy).below hB).kept hg hf
    · obtain rfl := List.mem_singleton.1 hy
      exact RowQ.kept ⟨hd, hl, n1⟩ hg hf
theorem RowR.rsAt {base n c : Nat} {w : World} {A : Option Addr} {xs : List RX} (h : RowR base w (.slice A n c) xs) (hn : n = xs.length) : RsAt w A xs := by
  subst hn
  exact ⟨SlAt.of_own encRx_len h.own, fun x hx => ByAt.of_sl (h.each x hx).d (h.each x hx).l⟩
theorem RowR.off {base : Nat} {w : World} {v : Value} {xs : List RX} (h : RowR base w v xs) {A : Option Addr} (hA : ∀ b off s, A = some ⟨b, off, s⟩ → w.heap.size ≤ b) : OffS v.ownBlock A := by
  intro b off s e h2
  have h1 := hA b off s e
  have h3 := (h.own.lt b h2.symm).2
  omega
theorem one_flatR (xs : List RX) : ∀ u ∈ flatL encRx xs, u.oneCell' = true := by
  intro u hu
  obtain ⟨x, _, hx⟩ := List.mem_flatMap.1 hu
  unfold encRx at hx
  simp only [List.mem_cons, List.not_mem_nil, or_false] at hx
  rcases hx with rfl | rfl | rfl | rfl | rfl | rfl | rfl | rfl | rfl | rfl <;> rfl

section
variable {α : Type} {enc : α → List Value} {size : Nat} {P : Program} (w : World)
/-- The append of a slice onto an own row, with what is known of the row's block. -/
theorem wpList_append_slf {ops : Array Oper} {rest : List Oper} {o : Oper} {a : Act} {Q : Exit → Act → World → Prop} (hgd : o.guard = none) (s x : Operand) (t : TypeId)
    (ho : o.op = .call { callee := .builtin .append, args := #[s, x], argTypes := #[t, t] })
    (base : Nat) (e : TypeId) (i : TypeInfo) (z : Value) (bytes : Nat) (ht : P.underlying t = some (.slice e)) (hi : P.info? e = some i) (hz : i.zero = some z)
    (hsize : i.size = size) (hby : i.bytes = bytes) (hzs : z.cells.size = size) (hsz : 0 < size)
    (v : Value) (n : Nat) (xs : List Value) (hs : a.eval s = v) (hown : w.ownsRow base e size v n xs)
    (ad : Addr) (l : List α) (c : Nat) (hx : a.eval x = .slice (some ad) l.length c) (hk : ∀ x, (enc x).length = size) (hS : SlAt enc size w (some ad) l) (h1 : ∀ u ∈ flatL enc l, u.oneCell' = true)
    (h63 : n + l.length ≤ maxLen) (hbytes : (n + l.length) * bytes ≤ 140737488355328) (hbase : base ≤ w.heap.size)
    (h : ∀ v' w', w'.ownsRow base e size v' (n + l.length) (xs ++ flatL enc l) → w.grownBy w' v.ownBlock → (v'.ownBlock = v.ownBlock ∨ v'.ownBlock = some w.heap.size) → wpList P ops Q rest (a.put o.dst v') w') : wpList P ops Q (o :: rest) a w := by
  have hcells : ∀ j u, (flatL enc l)[j]? = some u → w.cell? (ad.add j) = some u := by
    intro j u hu
    rcases hS with rfl | ⟨b, off, hA, _, hc⟩
    · simp [flatL] at hu
    · injection hA with hA
      subst hA
      obtain ⟨q, r, x, rfl, h2, h3⟩ := flatL_find hk l j u hu
      have := hc q x h2 r u h3
      rw [Addr.add_lit, ← Nat.add_assoc]
      exact this
  obtain ⟨v', w', hrun, h2, h3, _, h4⟩ := run_append_own_at (P := P) w base t o.type e i z size bytes ht hi hz hsize hby hzs hsz v n xs hown ad l.length c (flatL enc l) (flatL_length hk l) hcells h1 h63 hbytes hbase
  refine wpList_plain hgd fun K hK => ?_
  unfold Oper.wp execOp
  simp only [ho, resolve, invoke, builtin, Sem.run_bind, Sem.run_pure, Result.andThen_ok, List.map_toArray, List.map_cons, List.map_nil, hs, hx, hrun]
  exact hK _ _ (h v' w' h2 h3 h4)
end
theorem infoRs : (Tryz.prog.info? 27).map (fun i => (i.zero, i.size, i.bytes)) = some (some (.agg #[.int .i64 0, .int .u32 0, .string ⟨#[]⟩, .int .i64 0, .string ⟨#[]⟩, .int .i64 0, .int .u8 0, .int .u32 0, .int .u32 0, .slice none 0 0]), 10, 104) := by kernel_rfl

/-- What was read so far, in front of what is read from m on. -/
def PreR (l : List UInt8) (rs : List RI) (m : Nat) : Prop := ∀ ys u, Rps (l.drop m) ys u → Rps l (rs ++ ys) u
theorem PreR.zero (l : List UInt8) : PreR l [] 0 := fun _ _ h => h
theorem PreR.step {l : List UInt8} {rs : List RI} {m : Nat} {r : RI} (h : PreR l rs m) (hr : RpAt (l.drop m) r) : PreR l (rs ++ [r]) (m + (rsForm r).length) := fun ys u hu => by
  obtain ⟨hi, ho, t, ht⟩ := hr
  have e : l.drop (m + (rsForm r).length) = t := by rw [← List.drop_drop, ht, List.drop_left]
  rw [e] at hu
  rw [List.append_assoc]
  exact h _ _ (.next hi ho ht hu)
theorem PreR.stop {l : List UInt8} {rs : List RI} {m : Nat} (h : PreR l rs m) (hn : ∀ r, ¬ RpAt (l.drop m) r) : Rps l rs (l.drop m) := by
  have := h [] _ (.stop hn)
  rwa [List.append_nil] at this
/-- What All returns. -/
def AlPo (l : List UInt8) (w : World) (e : Ending) (w' : World) : Prop :=
  ∃ xs A c u m, Rps l (xs.map fun x : RX => x.r) u ∧ m + u.length = l.length ∧ e = .returned (.tuple #[.slice A xs.length c, .int .i64 ((m : Nat) : Int)]) ∧ RsAt w' A xs ∧ Below w.heap.size w w'

set_option maxRecDepth 100000 in
set_option maxHeartbeats 8000000 in
theorem pall10_any (B c n : Nat) (A : Option Addr) (l : List UInt8) (hn : l.length = n) (hl : n ≤ 1000000) (w : World) (henv : Env w) (hA : ByAt B w A c l) :
    Calls Tryz.prog 13 #[.slice A n c] w (AlPo l w) := by
  obtain ⟨i0, hi, hz0, hz1, hz2⟩ := info_parts infoRs
  have HE := Lib.hid (fun W (h : Below w.heap.size w W) => henv.below h)
  have HA := Lib.hid (fun W (h : Below w.heap.size w W) => (hA.here.below h).here)
  have HN := Lib.hid hn
  clear henv hA hn
  go_enter Tryz.func13, Tryz.ntmps13
  go_wp2_with fail
  go_loopw [4, 5] (fun v i wr => ∃ (m p : Nat) (Av : Option Addr) (cv : Nat) (xs : List RX), i = .int .i64 (m : Int) ∧ v = .slice Av p cv ∧ m ≤ n ∧ p ≤ m ∧ Hid (xs.length = p) ∧ Hid (PreR l (xs.map fun x => x.r) m) ∧ Hid (RowR w.heap.size wr (.slice Av p cv) xs) ∧ Hid (Below w.heap.size w wr)) (fun _ i _ => n - (intOf i).toNat)
  case atStart => exact ⟨0, 0, none, 0, [], rfl, rfl, Nat.zero_le _, Nat.le_refl _, Lib.hid rfl, Lib.hid (PreR.zero l), Lib.hid (RowR.nil _ _), Lib.hid (Below.refl _ _)⟩
  case round =>
  obtain ⟨m, p, Av, cv, xs, rfl, rfl, hm, hp, hX, hP, hO, hB⟩ := hrel
  have PA := Lib.hid (parse_any _ c n A l (m : Int) (by omega) (by omega) HN.out hl wr (HE.out wr hB.out) (HA.out wr hB.out))
  go_wp2_with fail
  refine PA.out.mono ?_
  rintro e w1 ⟨hq, hb1⟩
  have HB1 := Lib.hid (below_next hB.out hb1)
  unfold PaPo at hq
  rcases hq with ⟨r, A2, c2, m2, hin, hrp, hm2, hml, rfl, hby, hnew⟩ | ⟨hno, rfl⟩
  · have hm2' : m2 = m + (rsForm r).length := hm2
    have HPS := Lib.hid (show PreR l ((xs ++ [(⟨r, A2, c2⟩ : RX)]).map fun x => x.r) m2 by
      rw [hm2', List.map_append]
      exact hP.out.step hrp)
    have hlt : m < m2 := by have := form_long r; omega
    have hmn : m2 ≤ n := by rw [← HN.out]; exact hml
    have HOFF := Lib.hid (hO.out.off hnew)
    have HAL := Lib.hid (below_al w1 (.cells (encRx ⟨r, A2, c2⟩).toArray 27))
    have HBK := Lib.hid (heap_alloc_new w1 (.cells (encRx ⟨r, A2, c2⟩).toArray 27))
    have HBY := Lib.hid hby
    have HB11 := Lib.hid hb1
    have hxr : Hid (encRx ⟨r, A2, c2⟩ = [.int .i64 r.kind, .int .u32 (r.n : Int), .string ⟨r.tag.toArray⟩, .int .i64 r.status, .string ⟨r.text.toArray⟩, .int .i64 r.items, .int .u8 (r.flags : Int), .int .u32 (r.uid : Int), .int .u32 (r.size : Int), .slice A2 r.body.length c2]) := Lib.hid rfl
    unfold rsV
    clear hm2 hm2' hml hrp hin hby hnew PA hb1
    unfold encRx at HAL HBK
    go_upto_region 4 with (fail)
    generalize w1.alloc (.cells [.int .i64 r.kind, .int .u32 (r.n : Int), .string ⟨r.tag.toArray⟩, .int .i64 r.status, .string ⟨r.text.toArray⟩, .int .i64 r.items, .int .u8 (r.flags : Int), .int .u32 (r.uid : Int), .int .u32 (r.size : Int), .slice A2 r.body.length c2].toArray 27) = W3 at *
    have HB3 := Lib.hid (below_next HB1.out HAL.out)
    have HWW := Lib.hid (below_next (below_next HB11.out HAL.out) (below_al W3 (.cells (encRx ⟨r, A2, c2⟩).toArray 27)))
    have HO4 := Lib.hid (hO.out.below HWW.out).own
    rw [hX.out] at HO4
    have HSX := Lib.hid (rsAt_one (HBY.out.below HAL.out).here).sl
    have HB4 := Lib.hid (below_next HB3.out (below_al W3 (.cells (encRx ⟨r, A2, c2⟩).toArray 27)))
    have HA4 := Lib.hid (below_next HAL.out (below_al W3 (.cells (encRx ⟨r, A2, c2⟩).toArray 27)))
    have HSZ := Lib.hid HB4.out.size
    obtain ⟨x0, x1, x2, x3, x4, x5, x6, x7, x8, x9⟩ := cells10 HBK.out
    have h63 : p + 1 ≤ maxLen := by unfold maxLen; omega
    have hbyt : (p + 1) * 104 ≤ 140737488355328 := by omega
    have H63 := Lib.hid h63
    have HBYT := Lib.hid hbyt
    clear h63 hbyt
    unfold encRx at HWW HO4 HSX HB4 HA4 HSZ
    go_wp2_with (at_builtin; refine wpList_append_slf _ rfl _ _ 32 rfl w.heap.size 27 i0 _ 104 Tryz.underlying32 hi hz0 hz1 hz2 rfl (by decide) _ p _ rfl HO4.out _ [(⟨r, A2, c2⟩ : RX)] _ rfl encRx_len HSX.out (one_flatR _) H63.out HBYT.out HSZ.out ?_; intro vv w3 hown3 hg3 hf3)
    obtain ⟨A3, c3, rfl⟩ := own_any hown3
    have RX' := Lib.hid (hO.out.snoc HWW.out (x := ⟨r, A2, c2⟩) ((HBY.out.below HA4.out).here.sl) HBY.out.le (.inr HOFF.out) (by rw [hX.out]; exact hown3) hg3 hf3)
    have HB5 := Lib.hid (HB4.out.grown hg3 HSZ.out (fun kk hkk => (HO4.out.lt kk hkk).1))
    have HX1 := Lib.hid (show (xs ++ [(⟨r, A2, c2⟩ : RX)]).length = p + 1 by rw [List.length_append, hX.out]; rfl)
    clear hown3 hg3 hf3
    go_roundw
    case rel => exact ⟨m2, p + 1, A3, c3, _, by go_num, rfl, hmn, by omega, HX1, HPS, RX', HB5⟩
    case measure => simp [intOf]; omega
  · have HST := Lib.hid (show Rps l (xs.map fun x => x.r) (l.drop m) from hP.out.stop (fun r hr => by
      by_cases hlt : m < n
      · exact hno ⟨by omega, by rw [HN.out]; omega⟩ r hr
      · rw [List.drop_eq_nil_of_le (by rw [HN.out]; omega)] at hr
        exact hr.not_nil))
    have HRS := Lib.hid ((hO.out.below hb1).rsAt hX.out.symm)
    have HLN := Lib.hid (show m + (l.drop m).length = l.length by rw [List.length_drop, HN.out]; omega)
    clear hno PA hb1
    unfold rsV
    go_wp2_with fail
    refine bodyPost_ret (v := .tuple #[.slice Av p cv, .int .i64 ((m : Nat) : Int)]) (by simp [results, Tryz.results13, go_sem]) rfl ⟨xs, Av, cv, l.drop m, m, HST.out, HLN.out, by rw [hX.out], ?_, ?_⟩
    · exact HRS.out.below (by repeat (first | exact Below.refl _ _ | refine belDrawN ?_ _ | refine belDraw ?_ | refine belAlloc ?_ _))
    · exact below_next HB1.out (by repeat (first | exact Below.refl _ _ | refine belDrawN ?_ _ | refine belDraw ?_ | refine belAlloc ?_ _))
end Go.Proofs.YtpoejnajnaolpaaGreatDoor
