/- A mailbox's Expunge. -/
import Derived.Test.YthdbbappojkmoaaGreatHu
import Derived.Test.YthdbbappojkmoaaGreatHbb
import Derived.Test.YthdbbappojkmoaaGreatHbc
import Derived.Test.YthdbbappojkmoaaGreatHba
namespace Go.Proofs.YthdbbappojkmoaaGreat
open Go.RowKit Go.Maps

/-- Messages taken out, one after another. -/
def delL (ms : List MsgP) (l : List Nat) : List MsgP := l.foldl (fun s u => s.filter fun m => !decide (m.u = u)) ms
theorem delL_step (ms : List MsgP) {l : List Nat} {k : Nat} (hk : k < l.length) : delL ms (l.take (k + 1)) = (delL ms (l.take k)).filter fun m => !decide (m.u = l[k]) := by
  unfold delL
  rw [List.take_succ_eq_append_getElem hk, List.foldl_append]
  rfl
theorem delL_eq : ∀ (l : List Nat) (ms : List MsgP), delL ms l = ms.filter fun m => !decide (m.u ∈ l)
  | [], ms => by
    show ms = _
    exact (List.filter_eq_self.2 fun m _ => by simp).symm
  | u :: l, ms => by
    show delL (ms.filter fun m => !decide (m.u = u)) l = _
    rw [delL_eq l]
    simp only [List.filter_filter]
    refine List.filter_congr fun m _ => ?_
    by_cases a : m.u = u <;> by_cases b : m.u ∈ l <;> simp [a, b]
theorem del_uids (ms : List MsgP) (u : Nat) : (ms.filter fun m => !decide (m.u = u)).map (·.u) = remL (ms.map (·.u)) u := by
  unfold remL
  rw [List.filter_map]
  rfl
section
variable {g gt gc gi mb : Nat} {T : Int} {L : List MI} {S S1 S2 S3 : Nat → Prop} {st : StP} {w : World}
theorem delL_all (h : SG st T L) : delL st.ms (goneP st) = (expP st).ms := by
  rw [delL_eq]
  refine List.filter_congr fun m hm => ?_
  have : m.u ∈ goneP st ↔ isDel m = true := by
    unfold goneP
    rw [List.mem_map]
    constructor
    · rintro ⟨x, hx, hu⟩
      obtain ⟨h1, h2⟩ := List.mem_filter.1 hx
      have hnd : (st.ms.map (·.u)).Nodup := h.asc.imp fun h => Nat.ne_of_lt h
      obtain ⟨i, hi, rfl⟩ := List.mem_iff_getElem.1 h1
      obtain ⟨j, hj, rfl⟩ := List.mem_iff_getElem.1 hm
      have : i = j := (List.getElem_inj (h₀ := by simpa using hi) (h₁ := by simpa using hj) hnd).1 (by simpa using hu)
      subst this
      exact h2
    · intro hd
      exact ⟨m, List.mem_filter.2 ⟨hm, hd⟩, rfl⟩
  cases hd : isDel m with
  | true => simp [this.2 hd]
  | false => simp [show ¬ m.u ∈ goneP st from fun e => by rw [this.1 e] at hd; cases hd]
theorem own_in16 {B : Nat} {ty : TypeId} {sz n m c : Nat} {A : Option Addr} {xs : List Value} (h : w.ownsRow B ty sz (.slice A n c) m xs) : ∀ a, A = some a → a.block < w.heap.size := by
  intro a ha
  rcases h.2 with ⟨e, _⟩ | ⟨g, cap, cur, e, _, hg, _⟩
  · injection e with e
    rw [e] at ha
    cases ha
  · injection e with e
    rw [e] at ha
    cases ha
    exact (Array.getElem?_eq_some_iff.1 hg).1
set_option maxRecDepth 100000 in
set_option maxHeartbeats 4000000 in
theorem remw_any (hX : SX g gt gc gi mb T L (uidsP st) S1 S2 S3 st w) (hG : SG st T L) :
    Calls Tryz.prog 38 #[.pointer (some ⟨g, 0, none⟩), .int .u8 4] w fun e w' => ∃ (A : Option Addr) (c : Nat) (L' : List MI) (S1' S2' : Nat → Prop), e = .returned (.slice A (goneP st).length c) ∧ w'.ownsRow w.heap.size 27 1 (.slice A (goneP st).length c) (goneP st).length (flatL encU (goneP st)) ∧ Out (SS g gc S1' S2' S3) A ∧
      SX g gt gc gi mb T L' (uidsP (expP st)) S1' S2' S3 { st with ms := (expP st).ms } w' ∧ SG { st with ms := (expP st).ms } T L' ∧ MoreQ (SS g gc S1 S2 S3) (SS g gc S1' S2' S3) w ∧ KeptO (SS g gc S1 S2 S3) w w' := by
  have hll := hG.llen
  have hlen := hG.len
  have hcap := hG.cap
  have hgl : (goneP st).length ≤ 4096 := by
    unfold goneP
    rw [List.length_map]
    exact Nat.le_trans (List.length_filter_le _ _) (by omega)
  have hgb : ∀ u ∈ goneP st, u ≤ 4294967295 := fun u hu => by
    obtain ⟨m, hm, rfl⟩ := List.mem_map.1 hu
    have := hG.lt m (List.mem_filter.1 hm).1
    have := hG.nx
    omega
  have HX := Lib.hid hX
  have HG := Lib.hid hG
  have HGB := Lib.hid hgb
  obtain ⟨c0, c1, c2, c3, c4⟩ := hX.cells
  have C := Lib.hid (twith_same 4 (by omega) hX.tb (by omega))
  clear hX hG hgb c0 c1 c2 c4 hlen hcap hll
  go_enter Tryz.func38, Tryz.ntmps38
  go_wp2_with fail
  refine C.out.mono ?_
  rintro e w1 ⟨O, v, rfl, h1, h2, h3, h4, h5⟩
  obtain ⟨A, c, rfl⟩ := own_any h3
  obtain rfl := HG.out.gone h1 fun m hm => (HG.out.pos HX.out.tb.good m hm).1
  obtain ⟨k1, k2, k3⟩ := HX.out.tab h4 (fun _ e => .inl e) h5 st.ms
  have HR0 := Lib.hid h3
  have HX0 := Lib.hid (show SX g gt gc gi mb T L ((delL st.ms ((goneP st).take 0)).map (·.u)) S1 S2 S3 { st with ms := delL st.ms ((goneP st).take 0) } w1 from k1)
  have HG0 := Lib.hid (show SG { st with ms := delL st.ms ((goneP st).take 0) } T L from HG.out)
  have HK0 := Lib.hid k3
  have HM0 := Lib.hid (show MoreQ (SS g gc S1 S2 S3) (SS g gc S1 S2 S3) w from fun _ e => .inl e)
  have HO0 := Lib.hid (show Out (SS g gc S1 S2 S3) A from own_out h3 HX.out.lt)
  have HEX := Lib.hid (delL_all HG.out)
  have HU := Lib.hid (show uidsP (expP st) = (expP st).ms.map (·.u) from rfl)
  clear C h1 h2 h3 h4 h5 k1 k2 k3 c3 HX HG
  generalize hGe : goneP st = G at *
  have HGE := Lib.hid hGe
  clear hGe
  go_wp2_with fail
  go_loopw [16] (fun s16 wr => ∃ k : Nat, k ≤ G.length ∧ s16 = .int .i64 k ∧ ∃ (Lk : List MI) (S1k S2k : Nat → Prop), Hid (SX g gt gc gi mb T Lk ((delL st.ms (G.take k)).map (·.u)) S1k S2k S3 { st with ms := delL st.ms (G.take k) } wr) ∧ Hid (SG { st with ms := delL st.ms (G.take k) } T Lk) ∧ Hid (MoreQ (SS g gc S1 S2 S3) (SS g gc S1k S2k S3) w) ∧ Hid (KeptO (SS g gc S1 S2 S3) w wr) ∧
    Hid (wr.ownsRow w.heap.size 27 1 (.slice A G.length c) G.length (flatL encU G)) ∧ Hid (Out (SS g gc S1k S2k S3) A)) (fun s _ => G.length - (intOf s).toNat)
  case atStart => exact ⟨0, Nat.zero_le _, rfl, _, _, _, HX0, HG0, HM0, HK0, HR0, HO0⟩
  case round =>
    obtain ⟨k, hk, rfl, Lk, S1k, S2k, HX, HGk, HM, HK, HR, HO⟩ := hrel
    clear HX0 HG0 HM0 HK0 HR0 HO0
    have hk0 : (0 : Int) ≤ (k : Int) := by omega
    by_cases hlt : k < G.length
    · obtain ⟨b, off, rfl, hb, hx⟩ := (SlAt.of_own encU_len HR.out).one hlt
      have hk1 : (k : Int) < (G.length : Int) := by omega
      have hu := HGB.out G[k] (List.getElem_mem hlt)
      obtain ⟨d0, d1, d2, d3, d4⟩ := HX.out.cells
      have hl := HGk.out.llen
      have hc1 := HGk.out.len
      have hc2 := HGk.out.cap
      have RC := Lib.hid (tremove_any G[k] hu HX.out.tb (by simp only at hl hc1 hc2; omega))
      have HST := Lib.hid (delL_step st.ms hlt)
      generalize G[k] = x at *
      generalize delL st.ms (G.take k) = mk at *
      clear hl hc1 hc2 d0 d1 d2 d4
      go_wp2_with fail
      refine RC.out.mono ?_
      rintro e w2 ⟨y, S', rfl, -, -, t1, t2, t3⟩
      obtain ⟨y1, y2, y3⟩ := HX.out.tab t1 t2.2 t3 (mk.filter fun m => !decide (m.u = x))
      have RI := Lib.hid (ixtremove_any x y1.ix)
      obtain ⟨f0, f1, f2, f3, f4⟩ := y1.cells
      have Y1 := Lib.hid y1
      have Y2 := Lib.hid y2
      have Y3 := Lib.hid y3
      clear RC t1 t2 t3 y1 y2 y3 d3 f0 f1 f3 f4
      unfold msV
      go_wp2_with fail
      refine RI.out.mono ?_
      rintro e w3 ⟨p, rfl, S2', q1, q2, q3⟩
      obtain ⟨z1, z2, z3⟩ := Y1.out.idx q1 q2 q3
      have hsz := HK.out.size
      have hsz2 := Y3.out.size
      have hm2 : MoreQ (SS g gc S1k S2k S3) (SS g gc S' S2' S3) wr := fun j e => (z2 j e).elim (Y2.out j) fun e => .inr (by omega)
      have hkk : KeptO (SS g gc S1k S2k S3) wr w3 := Y3.out.trans z3 fun j e => Y2.out j e
      have HX2 := Lib.hid (show SX g gt gc gi mb T (remM Lk x) ((delL st.ms (G.take (k + 1))).map (·.u)) S' S2' S3 { st with ms := delL st.ms (G.take (k + 1)) } w3 by rw [HST.out, del_uids]; exact z1)
      have HG2 := Lib.hid (show SG { st with ms := delL st.ms (G.take (k + 1)) } T (remM Lk x) by rw [HST.out]; exact HGk.out.del (fun v => !decide (v = x)) st.sub HGk.out.sb)
      have HM2 := Lib.hid (show MoreQ (SS g gc S1 S2 S3) (SS g gc S' S2' S3) w from fun j e => (hm2 j e).elim (HM.out j) fun e => .inr (by omega))
      have HK2 := Lib.hid (HK.out.trans hkk fun j e => HM.out j e)
      have hlt2 : b < wr.heap.size := hb
      have HR2 := Lib.hid (own_lies HR.out (fun a ha => hkk.block a.block (by cases ha; exact hlt2) (HO.out a ha)))
      have HO2 := Lib.hid (show Out (SS g gc S' S2' S3) (some ⟨b, off, none⟩) from fun a ha e => (hm2 _ e).elim (HO.out a ha) fun e => by cases ha; simp only at e; omega)
      clear RI q1 q2 q3 z1 z2 z3 hm2 hkk HX HGk HM HK HR HO Y1 Y2 Y3 f2
      go_wp2_with fail
      go_roundw
      case rel => exact ⟨k + 1, by omega, by go_num, _, _, _, HX2, HG2, HM2, HK2, HR2, HO2⟩
      case measure => simp [intOf]; omega
    · obtain rfl : k = G.length := by omega
      rw [List.take_length] at HX HGk
      go_wp2_with fail
      go_ret
      rw [HEX.out] at HX HGk
      rw [HU.out, HGE.out]
      exact ⟨A, c, Lk, S1k, S2k, rfl, HR.out, HO.out, HX.out, HGk.out, HM.out, HK.out⟩
end
set_option maxRecDepth 100000 in
set_option maxHeartbeats 2000000 in
theorem exp1_any (b : Nat) (G : List Nat) (hG : ∀ u ∈ G, u ≤ 4294967295) (hl : G.length ≤ 4096) (A : Option Addr) (c : Nat) (u : Int) (gu : Nat) (q : List EvI) (hq : q.length ≤ 50000) (T : Nat → Prop) (W : World) (ht : QT gu T q W) (hB : W.heap[b]? = some (.cells #[.slice A G.length c] 28)) (hS : SlAt encU 1 W A G) (hO : Out T A) :
    Calls Tryz.prog 39 #[.int .i64 u, .pointer (some ⟨gu, 0, none⟩), .pointer (some ⟨b, 0, none⟩)] W fun e w' => e = .returned (.tuple #[]) ∧ ∃ T', QT gu T' (q ++ G.map fun u => (⟨2, (u : Nat), 0⟩ : EvI)) w' ∧ MoreQ T T' W ∧ KeptO T W w' := by
  have c1 : W.cell? ⟨b, 0, none⟩ = some (.slice A G.length c) := cell_of_row _ _ 0 _ _ _ hB
  have HT0 := Lib.hid (show QT gu T (q ++ (G.take 0).map fun u => (⟨2, (u : Nat), 0⟩ : EvI)) W by rw [List.take_zero, List.map_nil, List.append_nil]; exact ht)
  have HM0 := Lib.hid (show MoreQ T T W from fun _ e => .inl e)
  have HK0 := Lib.hid (KeptO.refl T W)
  have HS := Lib.hid hS
  have HO := Lib.hid hO
  have HG := Lib.hid hG
  have HQ := Lib.hid hq
  clear ht hB hS hO hG hq
  go_enter Tryz.func39, Tryz.ntmps39
  go_wp2_with fail
  clear c1
  go_loopw [9] (fun s9 wr => ∃ k : Nat, k ≤ G.length ∧ s9 = .int .i64 k ∧ ∃ (T1 : Nat → Prop), Hid (QT gu T1 (q ++ (G.take k).map fun u => (⟨2, (u : Nat), 0⟩ : EvI)) wr) ∧ Hid (MoreQ T T1 W) ∧ Hid (KeptO T W wr)) (fun s _ => G.length - (intOf s).toNat)
  case atStart => exact ⟨0, Nat.zero_le _, rfl, _, HT0, HM0, HK0⟩
  case round =>
    obtain ⟨k, hk, rfl, T1, HT, HM, HK⟩ := hrel
    clear HT0 HM0 HK0
    have hk0 : (0 : Int) ≤ (k : Int) := by omega
    by_cases hlt : k < G.length
    · obtain ⟨b2, off, rfl, hb, hx⟩ := (HS.out.keptO HO.out HK.out).one hlt
      have hk1 : (k : Int) < (G.length : Int) := by omega
      have hu := HG.out G[k] (List.getElem_mem hlt)
      have HST := Lib.hid (show (q ++ (G.take k).map fun u => (⟨2, (u : Nat), 0⟩ : EvI)) ++ [⟨2, G[k], 0⟩] = q ++ (G.take (k + 1)).map fun u => (⟨2, (u : Nat), 0⟩ : EvI) by rw [List.take_succ_eq_append_getElem hlt, List.map_append, List.append_assoc]; rfl)
      have hql : (q ++ (G.take k).map fun u => (⟨2, (u : Nat), 0⟩ : EvI)).length ≤ 100000 := by
        have := HQ.out
        rw [List.length_append, List.length_map, List.length_take]
        omega
      have C := Lib.hid (push1_any ⟨2, G[k], 0⟩ (by unfold evOk; simp; omega) (by rfl) gu _ hql T1 wr HT.out)
      generalize G[k] = x at *
      clear hql
      go_wp2_with fail
      refine C.out.mono ?_
      rintro e w2 ⟨rfl, T2, t1, t2, t3⟩
      rw [HST.out] at t1
      have HT2 := Lib.hid t1
      have hsz := HK.out.size
      have HM2 := Lib.hid (show MoreQ T T2 W from fun j e => (t2 j e).elim (HM.out j) fun e => .inr (by omega))
      have HK2 := Lib.hid (HK.out.trans t3 HM.out)
      clear C t1 t2 t3 HT HM HK
      go_wp2_with fail
      go_roundw
      case rel => exact ⟨k + 1, by omega, by go_num, _, HT2, HM2, HK2⟩
      case measure => simp [intOf]; omega
    · obtain rfl : k = G.length := by omega
      rw [List.take_length] at HT
      go_wp2_with fail
      go_end0
      exact ⟨rfl, T1, HT.out, HM.out, HK.out⟩
section
variable {g : Nat} {S : Nat → Prop} {st : StP} {w : World}
set_option maxRecDepth 100000 in
set_option maxHeartbeats 4000000 in
theorem sexp_any (hq : smallP st 50000) (h : ST g st S w) :
    Calls Tryz.prog 12 #[.pointer (some ⟨g, 0, none⟩)] w fun e w' => ∃ (S' : Nat → Prop) (A : Option Addr) (c : Nat), e = .returned (.slice A (goneP st).length c) ∧ w'.ownsRow w.heap.size 27 1 (.slice A (goneP st).length c) (goneP st).length (flatL encU (goneP st)) ∧ (∀ a, A = some a → ¬ S' a.block) ∧ ST g (expP st) S' w' ∧ MoreQ S S' w ∧ KeptO S w w' := by
  obtain ⟨gt, gc, gi, mb, T, L, S1, S2, S3, hX, hG, hE⟩ := h
  have hlen := hG.len
  have hcap := hG.cap
  have hgl : (goneP st).length ≤ 4096 := by
    unfold goneP
    rw [List.length_map]
    exact Nat.le_trans (List.length_filter_le _ _) (by omega)
  have hgb : ∀ u ∈ goneP st, u ≤ 4294967295 := fun u hu => by
    obtain ⟨m, hm, rfl⟩ := List.mem_map.1 hu
    have := hG.lt m (List.mem_filter.1 hm).1
    have := hG.nx
    omega
  have HR := Lib.hid (remw_any hX hG)
  have HQ := Lib.hid hq
  have HG := Lib.hid hG
  have HE := Lib.hid hE
  have HGB := Lib.hid hgb
  have HGL := Lib.hid hgl
  clear hX hG hE hq hlen hcap hgl hgb
  go_enter Tryz.func12, Tryz.ntmps12
  go_wp2_with fail
  refine HR.out.mono ?_
  rintro e w1 ⟨A, c, L', S1', S2', rfl, k1, k2, k3, k4, k5, k6⟩
  have hb := below_al w1 (.cells #[.slice A (goneP st).length c] 28)
  have hn := heap_alloc_new w1 (.cells #[.slice A (goneP st).length c] 28)
  have hz : (w1.alloc (.cells #[.slice A (goneP st).length c] 28)).heap.size = w1.heap.size + 1 := by simp
  have hlt := k3.lt
  have hin := own_in16 k1
  have hrow : (w1.alloc (.cells #[.slice A (goneP st).length c] 28)).ownsRow w.heap.size 27 1 (.slice A (goneP st).length c) (goneP st).length (flatL encU (goneP st)) := own_lies k1 (fun a ha => hb.block _ (hin a ha))
  have hsl := SlAt.of_own encU_len hrow
  have hnot : ¬ SS g gc S1' S2' S3 w1.heap.size := fun e => Nat.lt_irrefl _ (hlt w1.heap.size e)
  have C := Lib.hid (seach_any (st := { st with ms := (expP st).ms }) (fun k => k = w1.heap.size ∨ ∃ a, A = some a ∧ a.block = k) (fun k hk => by
      rcases hk with rfl | ⟨a, ha, rfl⟩
      · exact ⟨by omega, fun e => hnot (.inr (.inr (.inr (.inr e))))⟩
      · exact ⟨by have := hin a ha; omega, fun e => k2 a ha (.inr (.inr (.inr (.inr e))))⟩) 39 #[.pointer (some ⟨w1.heap.size, 0, none⟩)] (fun _ q => q ++ (goneP st).map fun u => (⟨2, (u : Nat), 0⟩ : EvI)) (fun args w => by simp [go_sem])
    (fun u gu q T W _ h2 h3 h4 h5 => exp1_any w1.heap.size (goneP st) HGB.out HGL.out A c u gu q (HQ.out u q h2) T W h3 ((h4 _ (.inl rfl)).trans hn) (hsl.elim (fun e => .inl e) fun ⟨b, off, hA, _, hc⟩ => .inr ⟨b, off, hA, by
        have e0 := h4 b (.inr ⟨_, hA, rfl⟩)
        have e1 := hin _ hA
        have e2 : b < (w1.alloc (.cells #[.slice A (goneP st).length c] 28)).heap.size := by have : b < w1.heap.size := e1; omega
        rw [Array.getElem?_eq_getElem e2] at e0
        exact (Array.getElem?_eq_some_iff.1 e0).1, fun j x hj i v hi => (cell_blk (h4 b (.inr ⟨_, hA, rfl⟩))).trans (hc j x hj i v hi)⟩) (fun a ha e => h5 _ (.inr ⟨a, ha, rfl⟩) e)) (fun i e => (HG.out.sb i e).1) (k3.below hb))
  have HN := Lib.hid hn
  have HB := Lib.hid hb
  have K1 := Lib.hid hrow
  have K2 := Lib.hid k2
  have K4 := Lib.hid k4
  have K5 := Lib.hid k5
  have K6 := Lib.hid (k6.then_below hb)
  have HIN := Lib.hid (fun a (ha : A = some a) => Nat.lt_of_lt_of_le (hin a ha) hb.size)
  have HL := Lib.hid hnot
  clear HR hb hn hz hlt hin hrow hsl hnot k1 k2 k3 k4 k5 k6
  generalize hGe : goneP st = G at *
  have HGE := Lib.hid hGe
  clear hGe
  go_wp2_with fail
  refine C.out.mono ?_
  rintro e w2 ⟨rfl, S3', z1, z2, z3⟩
  have hbx := z3.heap HN.out HL.out
  have d0 : w2.cell? ⟨w1.heap.size, 0, none⟩ = some (.slice A G.length c) := cell_of_row _ _ 0 _ _ _ hbx
  have HR2 := Lib.hid (own_lies K1.out (fun a ha => z3.block a.block (HIN.out a ha) (K2.out a ha)))
  have Z1 := Lib.hid z1
  have Z2 := Lib.hid z2
  have Z3 := Lib.hid z3
  clear C hbx z1 z2 z3 HN HL K1
  go_wp2_with fail
  go_ret
  rw [HGE.out]
  refine ⟨SS g gc S1' S2' S3', A, c, rfl, HR2.out, fun a ha e => ?_, ⟨gt, gc, gi, mb, T, L', S1', S2', S3', ?_, ⟨K4.out.ms, K4.out.asc, K4.out.lt, K4.out.cap, K4.out.len, K4.out.nx, K4.out.tk, fun i e => HG.out.sb i (by unfold expP at e; simpa using e)⟩, fun _ => Iff.rfl⟩, fun k e => ?_, (K6.out.trans Z3.out fun k e => K5.out k e).mono fun k e => (HE.out k).2 e⟩
  · rcases Z2.out _ e with e | e
    · exact K2.out a ha e
    · have := HIN.out a ha
      omega
  · have hz1 := Z1.out
    rw [← HGE.out] at hz1
    exact hz1
  · rcases Z2.out k e with e | e
    · exact (K5.out k e).imp (HE.out k).2 fun e => e
    · have := K6.out.size
      exact .inr (by omega)
end
end Go.Proofs.YthdbbappojkmoaaGreat
