/- The reference of layer 17: Apply, Follow. -/
import Derived.Test.YtefodmbaknedkaaVd
import Derived.Test.YtefodmbaknedkaaVj
import Derived.Test.YtefodmbaknedkaaVc
import Derived.Test.YtefodmbaknedkaaVi
import Derived.Deep.CutBlock
import Derived.Deep.DeepCutAuto
namespace Go.Proofs.Ytefodmbaknedkaa
open Go.RowKit

/-- A response of these fields alone, as cells. -/
def enc0 (r : RI) : List Value := [.int .i64 r.kind, .int .u32 (r.n : Int), .string ⟨#[]⟩, .int .i64 0, .string ⟨#[]⟩, .int .i64 r.items, .int .u8 (r.flags : Int), .int .u32 0, .int .u32 0, .slice none 0 0]
theorem enc0_len (r : RI) : (enc0 r).length = 10 := rfl
def rx0 (r : RI) : RX := ⟨r, none, 0⟩
theorem enc0_rx {r : RI} (h : plainR r) : encRx (rx0 r) = enc0 r := by
  obtain ⟨kind, n, tag, status, text, items, flags, uid, size, body⟩ := r
  obtain ⟨h1, h2, h3, h4, h5, h6⟩ := h
  simp only at h1 h2 h3 h4 h5 h6
  subst h1; subst h2; subst h3; subst h4; subst h5; subst h6
  rfl
theorem flat0 : ∀ {l : List RI}, (∀ r ∈ l, plainR r) → flatL enc0 l = flatL encRx (l.map rx0)
  | [], _ => rfl
  | r :: l, h => by
    have e : flatL enc0 (r :: l) = enc0 r ++ flatL enc0 l := rfl
    have e2 : flatL encRx ((r :: l).map rx0) = encRx (rx0 r) ++ flatL encRx (l.map rx0) := rfl
    rw [e, e2, enc0_rx (h r (List.mem_cons_self ..)), flat0 fun x hx => h x (List.mem_cons_of_mem _ hx)]
theorem one_flat0 (l : List RI) : ∀ u ∈ flatL enc0 l, u.oneCell' = true := by
  intro u hu
  obtain ⟨r, _, hr⟩ := List.mem_flatMap.1 hu
  simp [enc0] at hr
  rcases hr with rfl | rfl | rfl | rfl | rfl | rfl | rfl | rfl | rfl | rfl <;> rfl
/-- A row of such responses, read. -/
theorem rsAt_own {W : World} {B c : Nat} {A : Option Addr} {l : List RI} (hp : ∀ r ∈ l, plainR r) (h : W.ownsRow B 47 10 (.slice A l.length c) l.length (flatL enc0 l)) : RsAt W A (l.map rx0) := by
  refine ⟨?_, fun x hx => ?_⟩
  · rw [flat0 hp, show l.length = (l.map rx0).length from (List.length_map _).symm] at h
    exact SlAt.of_own encRx_len h
  · obtain ⟨r, hr, rfl⟩ := List.mem_map.1 hx
    show ByAt W.heap.size W none 0 r.body
    rw [(hp r hr).body]
    exact ByAt.nil _ _ _ _
/-- A list beside a row that grows. -/
theorem sl_apart {W W' : World} {A Ao A3 : Option Addr} {V : List Nat} {n c n' c' : Nat} (o : Obj) (hs : SlAt encU 1 W A V) (hap : V = [] ∨ Apart A Ao) (hg : (W.alloc o).grownBy W' (Value.slice Ao n c).ownBlock)
    (hf : (Value.slice A3 n' c').ownBlock = (Value.slice Ao n c).ownBlock ∨ (Value.slice A3 n' c').ownBlock = some (W.alloc o).heap.size) : SlAt encU 1 W' A V ∧ (V = [] ∨ Apart A A3) := by
  rcases hap with rfl | hap
  · exact ⟨.inl rfl, .inl rfl⟩
  · by_cases h0 : V = []
    · subst h0; exact ⟨.inl rfl, .inl rfl⟩
    · have hob : ∀ (A : Option Addr) n c, (Value.slice A n c).ownBlock = A.map Addr.block := fun A n c => by cases A <;> rfl
      rw [hob] at hg
      rw [hob, hob] at hf
      have hlt : ∀ a, A = some a → a.block < W.heap.size := fun a ha => by
        rcases hs with e | ⟨b, off, hA, hb, _⟩
        · exact absurd e h0
        · rw [hA] at ha; cases ha; exact hb
      refine ⟨(hs.below (below_al W o)).keptO (S := fun k => ∃ b, Ao = some b ∧ b.block = k) (fun a ha ⟨b, hb, e⟩ => hap a b ha hb e.symm) (KeptO.of_grown hg fun r hr => ?_), .inr fun a a3 ha h3 e => ?_⟩
      · cases hA : Ao with
        | none => rw [hA] at hr; cases hr
        | some b => rw [hA] at hr; exact ⟨b, rfl, Option.some.inj hr⟩
      · rw [h3] at hf
        rcases hf with hf | hf
        · cases hA : Ao with
          | none => rw [hA] at hf; cases hf
          | some b => rw [hA] at hf; exact hap a b ha hA (e.trans (Option.some.inj hf))
        · have := hlt a ha
          have h5 := Option.some.inj hf
          simp at h5
          omega
/-- A newer list lies apart. -/
theorem ap_new {W : World} {B n c m : Nat} {T : TypeId} {sz : Nat} {A A' Ao : Option Addr} {V V' : List Nat} {xs : List Value} (hr : W.ownsRow B T sz (.slice Ao n c) m xs) (hap : V = [] ∨ Apart A Ao) (h : (A' = A ∧ V' = V) ∨ ∀ a, A' = some a → W.heap.size ≤ a.block) : V' = [] ∨ Apart A' Ao := by
  rcases h with ⟨h, h'⟩ | h
  · rw [h, h']; exact hap
  · refine .inr fun a b ha hb e => ?_
    have h1 := h a ha
    rcases hr.2 with ⟨e2, _⟩ | ⟨g, cap, cur, e2, _, h5, _⟩
    · injection e2 with e2
      rw [e2] at hb
      cases hb
    · injection e2 with e2
      rw [e2] at hb
      cases hb
      have := (Array.getElem?_eq_some_iff.1 h5).1
      simp only at e
      omega
/-- Where the walk stands behind k events. -/
structure Av (A0 : Option Addr) (w : World) (v : List Nat) (l : List EvI) (k : Nat) (V : List Nat) (A : Option Addr) (O : List RI) (Ao : Option Addr) (co : Nat) (G : Bool) (W : World) : Prop where
  good : goodV V
  len : V.length ≤ v.length + k
  ol : O.length ≤ k
  sl : SlAt encU 1 W A V
  ap : V = [] ∨ Apart A Ao
  row : W.ownsRow w.heap.size 47 10 (.slice Ao O.length co) O.length (flatL enc0 O)
  nw : (A = A0 ∧ V = v) ∨ ∀ a, A = some a → w.heap.size ≤ a.block
  be : Below w.heap.size w W
  e1 : (apV V G (l.drop k)).1 = (apV v false l).1
  e2 : O ++ (apV V G (l.drop k)).2 = (apV v false l).2
theorem nextA_drop {l : List EvI} {k : Nat} : nextA (l.drop (k + 1)) = if h : k + 1 < l.length then decide (l[k + 1].k = 1) else false := by
  split
  · next h => rw [List.drop_eq_getElem_cons h]; rfl
  · next h => rw [List.drop_eq_nil_of_le (by omega)]; rfl
theorem ap_emit {V : List Nat} {G : Bool} {e : EvI} {l : List EvI} (h : e.k = 1) (hc : ((G || decide (lastL V < e.u)) && !nextA l) = true) : apV V G (e :: l) = ((apV (addV V e.u) false l).1, [rN 1 (addV V e.u).length] ++ (apV (addV V e.u) false l).2) := by
  rw [apV, if_pos h, if_pos hc]; rfl
theorem ap_grow {V : List Nat} {G : Bool} {e : EvI} {l : List EvI} (h : e.k = 1) (hc : ((G || decide (lastL V < e.u)) && !nextA l) = false) : apV V G (e :: l) = apV (addV V e.u) (G || decide (lastL V < e.u)) l := by
  rw [apV, if_pos h, if_neg (by rw [hc]; decide)]
theorem ap_gone {V : List Nat} {G : Bool} {e : EvI} {l : List EvI} (h : e.k = 2) (hm : e.u ∈ V) : apV V G (e :: l) = ((apV (remL V e.u) G l).1, [rN 3 (posL V e.u)] ++ (apV (remL V e.u) G l).2) := by
  rw [apV, if_neg (by omega), if_pos h, if_pos hm]; rfl
theorem ap_chg {V : List Nat} {G : Bool} {e : EvI} {l : List EvI} (h : e.k = 3) (hm : e.u ∈ V) : apV V G (e :: l) = ((apV V G l).1, [rF (posL V e.u) e.f] ++ (apV V G l).2) := by
  rw [apV, if_neg (by omega), if_neg (by omega), if_pos h, if_pos hm]; rfl
theorem ap_not {V : List Nat} {G : Bool} {e : EvI} {l : List EvI} (h : e.k ≠ 1) (hm : ¬ e.u ∈ V) : apV V G (e :: l) = apV V G l := by
  rw [apV, if_neg h]
  by_cases h2 : e.k = 2
  · rw [if_pos h2, if_neg hm]
  · rw [if_neg h2, if_neg hm]
    split <;> rfl
theorem ap_other {V : List Nat} {G : Bool} {e : EvI} {l : List EvI} (h1 : e.k ≠ 1) (h2 : e.k ≠ 2) (h3 : e.k ≠ 3) : apV V G (e :: l) = apV V G l := by
  rw [apV, if_neg h1, if_neg h2, if_neg h3]
section
variable {w W W' : World} {v : List Nat} {l : List EvI} {k : Nat} {V V' : List Nat} {A0 A Ao A' A3 : Option Addr} {O R : List RI} {co c3 : Nat} {G G' : Bool}
theorem Av.next (h : Av A0 w v l k V A O Ao co G W) (hg : goodV V') (hnw : (A' = A0 ∧ V' = v) ∨ ∀ a, A' = some a → w.heap.size ≤ a.block) (hlen : V'.length ≤ V.length + 1) (hR : R.length ≤ 1) (hs : SlAt encU 1 W' A' V' ∧ (V' = [] ∨ Apart A' A3))
    (hr : W'.ownsRow w.heap.size 47 10 (.slice A3 (O.length + R.length) c3) (O.length + R.length) (flatL enc0 O ++ flatL enc0 R)) (hb : Below w.heap.size w W')
    (he : apV V G (l.drop k) = ((apV V' G' (l.drop (k + 1))).1, R ++ (apV V' G' (l.drop (k + 1))).2)) : Av A0 w v l (k + 1) V' A' (O ++ R) A3 c3 G' W' := by
  have h1 := h.len
  have h2 := h.ol
  refine ⟨hg, by omega, by rw [List.length_append]; omega, hs.1, hs.2, by rw [List.length_append, flatL_append]; exact hr, hnw, hb, ?_, ?_⟩
  · rw [← h.e1, he]
  · rw [← h.e2, he, List.append_assoc]
theorem Av.same (h : Av A0 w v l k V A O Ao co G W) (hg : goodV V') (hnw : (A' = A0 ∧ V' = v) ∨ ∀ a, A' = some a → w.heap.size ≤ a.block) (hlen : V'.length ≤ V.length + 1) (hs : SlAt encU 1 W' A' V' ∧ (V' = [] ∨ Apart A' Ao)) (hb : Below W.heap.size W W') (he : apV V G (l.drop k) = apV V' G' (l.drop (k + 1))) : Av A0 w v l (k + 1) V' A' O Ao co G' W' := by
  have h1 := h.len
  have h2 := h.ol
  exact ⟨hg, by omega, by omega, hs.1, hs.2, own_below h.row hb, hnw, h.be.trans (hb.mono h.be.size), by rw [← h.e1, he], by rw [← h.e2, he]⟩
end
section
variable {A : Option Addr} {c : Nat} {v : List Nat} {w : World}
/-- Append, in both cases. -/
theorem rappend_any (u : Nat) (hl : v.length < 100000) (hS : SlAt encU 1 w A v) :
    Calls Try.prog 25 #[.slice A v.length c, .int .u32 u] w fun e w' => ∃ A' c', e = .returned (.tuple #[.slice A' (addV v u).length c', .bool (decide (lastL v < u))]) ∧ SlAt encU 1 w' A' (addV v u) ∧ ((A' = A ∧ addV v u = v) ∨ ∀ a, A' = some a → w.heap.size ≤ a.block) ∧ Below w.heap.size w w' := by
  by_cases h : lastL v < u
  · have hv : addV v u = v ++ [u] := if_pos h
    rw [hv, decide_eq_true h]
    refine (rappend_yes u hl h hS).mono ?_
    rintro e w' ⟨x, rfl, h1, h2⟩
    obtain ⟨A', c', rfl⟩ := own_any h1
    exact ⟨A', c', rfl, SlAt.of_own encU_len h1, .inr (own_from h1), h2⟩
  · have hv : addV v u = v := if_neg h
    rw [hv, decide_eq_false h]
    refine (rappend_no u hl h hS).mono ?_
    rintro e w' ⟨rfl, rfl⟩
    exact ⟨A, c, rfl, hS, .inl ⟨rfl, rfl⟩, Below.refl _ _⟩
end
section
variable {A : Option Addr} {c : Nat} {v : List Nat} {w : World}
theorem Av.stop {w W : World} {v : List Nat} {l : List EvI} {V : List Nat} {A0 A Ao : Option Addr} {O : List RI} {co : Nat} {G : Bool} (h : Av A0 w v l l.length V A O Ao co G W) : V = (apV v false l).1 ∧ O = (apV v false l).2 := by
  have h1 := h.e1
  have h2 := h.e2
  rw [List.drop_length] at h1 h2
  exact ⟨h1, by rw [← h2]; simp [apV]⟩
set_option maxRecDepth 100000 in
set_option maxHeartbeats 8000000 in
theorem rapply17_any (A : Option Addr) (c : Nat) (v : List Nat) (hv : goodV v) (hvl : v.length ≤ 50000) (hS : SlAt encU 1 w A v) (Al : Option Addr) (cl : Nat) (l : List EvI) (hl : l.length ≤ 10000) (hok : ∀ e ∈ l, evOk e) (hSl : SlAt encEv 3 w Al l) :
    Calls Try.prog 12 #[.slice A v.length c, .slice Al l.length cl] w fun e w' => ∃ (A1 A2 : Option Addr) (c1 c2 : Nat), e = .returned (.tuple #[.slice A1 (apV v false l).1.length c1, .slice A2 (apV v false l).2.length c2]) ∧ SlAt encU 1 w' A1 (apV v false l).1 ∧ ((A1 = A ∧ (apV v false l).1 = v) ∨ ∀ a, A1 = some a → w.heap.size ≤ a.block) ∧
      w'.ownsRow w.heap.size 47 10 (.slice A2 (apV v false l).2.length c2) (apV v false l).2.length (flatL enc0 (apV v false l).2) ∧ Below w.heap.size w w' := by
  obtain ⟨i0, hi, hz0, hz1, hz2⟩ := info_parts infoRs
  have HSL := Lib.hid hSl
  have HOK := Lib.hid hok
  have A0 : Hid (Av A w v l 0 v A [] none 0 false w) := Lib.hid ⟨hv, Nat.le_refl _, Nat.le_refl _, hS, .inr (Apart.none_right _), World.ownsRow_nil _ _ _ _, .inl ⟨rfl, rfl⟩, Below.refl _ _, rfl, rfl⟩
  clear hS hSl hv hok
  go_enter Try.func12, Try.ntmps12
  go_wp2_with fail
  go_loopw [0, 6, 7, 8] (fun s0 s6 s7 i wr => ∃ k : Nat, k ≤ l.length ∧ i = .int .i64 k ∧ ∃ (V : List Nat) (A2 : Option Addr) (c2 : Nat) (O : List RI) (Ao : Option Addr) (co : Nat) (G : Bool), s0 = .slice A2 V.length c2 ∧ s6 = .slice Ao O.length co ∧ s7 = .bool G ∧ Hid (Av A w v l k V A2 O Ao co G wr)) (fun _ _ _ i _ => l.length - (intOf i).toNat)
  case atStart => exact ⟨0, Nat.zero_le _, rfl, v, A, c, [], none, 0, false, rfl, rfl, rfl, A0⟩
  case round =>
    obtain ⟨k, hk, rfl, V, A2, c2, O, Ao, co, G, rfl, rfl, rfl, hAv⟩ := hrel
    clear A0
    have hk0 : (0 : Int) ≤ (k : Int) := by omega
    by_cases hlt : k < l.length
    · obtain ⟨b, off, rfl, hb, hx, hx1, hx2⟩ := (HSL.out.below hAv.out.be).ev hlt
      have hk1 : (k : Int) < (l.length : Int) := by omega
      have HOX := Lib.hid (HOK.out l[k] (List.getElem_mem hlt))
      have HD := Lib.hid (List.drop_eq_getElem_cons hlt)
      have hvl2 : V.length ≤ 60000 := by have := hAv.out.len; omega
      have hol := hAv.out.ol
      have h63 : O.length + 1 ≤ maxLen := by unfold maxLen; omega
      have h64 : (O.length + 1) * 104 ≤ 140737488355328 := by omega
      generalize l[k] = x at *
      by_cases h1 : x.k = 1
      · have HB1 := Lib.hid (below_al wr (.cells #[.int .i64 1, .int .u32 (x.u : Int), .int .u8 (x.f : Int)] 55))
        have PC := Lib.hid (rpos_any (c := c2) x.u (by omega) hAv.out.good.1 (hAv.out.sl.below HB1.out))
        have RC := Lib.hid (rappend_any (c := c2) x.u (by omega) (hAv.out.sl.below HB1.out))
        have HE1 := Lib.hid (fun h => ap_emit (V := V) (G := G) (l := l.drop (k + 1)) h1 h)
        have HE2 := Lib.hid (fun h => ap_grow (V := V) (G := G) (l := l.drop (k + 1)) h1 h)
        rw [h1] at hx
        clear h1
        generalize posL V x.u = p at *
        go_wp2_with fail
        refine PC.out.mono ?_
        rintro e w2 ⟨rfl, rfl⟩
        clear PC
        go_wp2_with fail
        refine RC.out.mono ?_
        rintro e w2 ⟨A4, c4, rfl, hs4, ha4, hb2⟩
        have hbt := HB1.out.trans (hb2.mono HB1.out.size)
        have HBT := Lib.hid hbt
        have HO := Lib.hid (own_below hAv.out.row hbt)
        have HB := Lib.hid (hAv.out.be.trans (hbt.mono hAv.out.be.size))
        have HS := Lib.hid hs4
        have HP := Lib.hid (show addV V x.u = [] ∨ Apart A4 Ao from ap_new (own_below hAv.out.row HB1.out) hAv.out.ap ha4)
        have HG := Lib.hid (hAv.out.good.add HOX.out.2.1)
        have HFR := Lib.hid (show (A4 = A ∧ addV V x.u = v) ∨ ∀ a, A4 = some a → w.heap.size ≤ a.block by
          rcases ha4 with ⟨e1, e2⟩ | e1
          · rcases hAv.out.nw with ⟨e3, e4⟩ | e3
            · exact .inl ⟨e1.trans e3, e2.trans e4⟩
            · exact .inr (by rw [e1]; exact e3)
          · exact .inr fun a ha => Nat.le_trans (Nat.le_trans hAv.out.be.size HB1.out.size) (e1 a ha))
        have HLN := Lib.hid (addV_len V x.u)
        have NXT := Lib.hid (fun (h : k + 1 < l.length) => (HSL.out.below HB.out).ev h)
        have HNX := Lib.hid (nextA_drop (l := l) (k := k))
        generalize decide (lastL V < x.u) = d at *
        generalize addV V x.u = V2 at *
        clear RC hs4 ha4 hb2 hbt hx hx1 hx2
        go_upto_region 12 with (fail)
        go_cut [7] (fun s wx => s = .bool (G || d) ∧ w2 = wx)
        case first =>
          cases G <;> cases d <;> (go_wp2_with fail; go_meet; exact ⟨rfl, rfl⟩)
        case rest =>
          obtain ⟨rfl, rfl⟩ := hcut
          generalize hgd : (G || d) = G2 at *
          clear hgd
          cases G2 with
          | false =>
            have HE := Lib.hid (HE2.out (by simp))
            clear HE1 HE2 NXT HNX
            go_wp2_with fail
            go_roundw
            case rel => exact ⟨k + 1, by omega, by go_num, V2, A4, c4, O, Ao, co, false, rfl, rfl, rfl, Lib.hid (hAv.out.same HG.out HFR.out (by have := HLN.out; omega) ⟨HS.out, HP.out⟩ HBT.out (by rw [HD.out]; exact HE.out))⟩
            case measure => simp [intOf]; omega
          | true =>
            simp only [Bool.true_and] at HE1 HE2
            go_upto_region 13 with (fail)
            go_cut [59] (fun s wx => s = .bool (!nextA (l.drop (k + 1))) ∧ w2 = wx)
            case first =>
              by_cases hlt2 : k + 1 < l.length
              · obtain ⟨b2, off2, hA2, _, y0, _, _⟩ := NXT.out hlt2
                injection hA2 with hA2
                injection hA2 with e1 e2
                subst e1; subst e2
                have hq : ((k : Int) + 1 == (l.length : Int)) = false := beq_eq_false_iff_ne.2 (by omega)
                have hk2 : (k : Int) + 1 < (l.length : Int) := by omega
                have hk3 : (0 : Int) ≤ (k : Int) + 1 := by omega
                by_cases hy : l[k + 1].k = 1
                · have HV := Lib.hid (show (!nextA (l.drop (k + 1))) = false by rw [HNX.out, dif_pos hlt2, decide_eq_true hy]; rfl)
                  rw [hy] at y0
                  clear NXT HNX HE1 HE2 hy
                  go_wp2_with fail
                  go_meet
                  exact ⟨by rw [HV.out], rfl⟩
                · have HV := Lib.hid (show (!nextA (l.drop (k + 1))) = true by rw [HNX.out, dif_pos hlt2, decide_eq_false hy]; rfl)
                  clear NXT HNX HE1 HE2
                  generalize l[k + 1].k = yk at *
                  go_wp2_with fail
                  go_meet
                  exact ⟨by rw [HV.out]; simp [hy], rfl⟩
              · have hq : ((k : Int) + 1 == (l.length : Int)) = true := beq_iff_eq.2 (by omega)
                have HV := Lib.hid (show (!nextA (l.drop (k + 1))) = true by rw [HNX.out, dif_neg hlt2]; rfl)
                clear NXT HNX HE1 HE2
                go_wp2_with fail
                go_meet
                exact ⟨by rw [HV.out], rfl⟩
            case rest =>
              obtain ⟨rfl, rfl⟩ := hcut
              clear NXT HNX
              generalize nextA (l.drop (k + 1)) = nx at *
              cases nx with
              | true =>
                have HE := Lib.hid (HE2.out (by simp))
                clear HE1 HE2
                go_wp2_with fail
                go_roundw
                case rel => exact ⟨k + 1, by omega, by go_num, V2, A4, c4, O, Ao, co, true, rfl, rfl, rfl, Lib.hid (hAv.out.same HG.out HFR.out (by have := HLN.out; omega) ⟨HS.out, HP.out⟩ HBT.out (by rw [HD.out]; exact HE.out))⟩
                case measure => simp [intOf]; omega
              | false =>
                have HE := Lib.hid (HE1.out (by simp))
                clear HE1 HE2
                have hwr : IntKind.u32.wrap (V2.length : Int) = (V2.length : Int) := IntWalk.u32_in _ (by have := HLN.out; omega)
                have HRW := Lib.hid (HO.out.alloc (.cells #[.int .i64 1, .int .u32 (V2.length : Int), .string ⟨#[]⟩, .int .i64 0, .string ⟨#[]⟩, .int .i64 0, .int .u8 0, .int .u32 0, .int .u32 0, .slice none 0 0] 47))
                have HSE : Hid (SlAt enc0 10 (w2.alloc (.cells #[.int .i64 1, .int .u32 (V2.length : Int), .string ⟨#[]⟩, .int .i64 0, .string ⟨#[]⟩, .int .i64 0, .int .u8 0, .int .u32 0, .int .u32 0, .slice none 0 0] 47)) (some ⟨w2.heap.size, 0, none⟩) [rN 1 V2.length]) := Lib.hid (slAt_box rfl)
                have hBs := HB.out.size
                have hba : w.heap.size ≤ (w2.alloc (.cells #[.int .i64 1, .int .u32 (V2.length : Int), .string ⟨#[]⟩, .int .i64 0, .string ⟨#[]⟩, .int .i64 0, .int .u8 0, .int .u32 0, .int .u32 0, .slice none 0 0] 47)).heap.size := by simp; omega
                go_wp2_with (at_builtin; refine wpList_append_slg _ rfl _ _ 29 rfl w.heap.size 47 i0 _ 104 Try.underlying29 hi hz0 hz1 hz2 rfl (by decide) _ O.length _ rfl HRW.out ⟨w2.heap.size, 0, none⟩ [rN 1 V2.length] 1 1 rfl rfl enc0_len HSE.out (one_flat0 _) h63 h64 hba ?_; intro v' wz hown' hgrow hfr; obtain ⟨A3, c3, rfl⟩ := own_any hown'; have HB3 := Lib.hid ((HB.out.alloc hBs (.cells #[.int .i64 1, .int .u32 (V2.length : Int), .string ⟨#[]⟩, .int .i64 0, .string ⟨#[]⟩, .int .i64 0, .int .u8 0, .int .u32 0, .int .u32 0, .slice none 0 0] 47)).grown hgrow hba (fun k hk => (HO.out.lt k hk).1)); have HS3 := Lib.hid (sl_apart (.cells #[.int .i64 1, .int .u32 (V2.length : Int), .string ⟨#[]⟩, .int .i64 0, .string ⟨#[]⟩, .int .i64 0, .int .u8 0, .int .u32 0, .int .u32 0, .slice none 0 0] 47) HS.out HP.out hgrow hfr); have HO3 := Lib.hid hown'; clear hown' hgrow hfr)
                go_roundw
                case rel => exact ⟨k + 1, by omega, by go_num, V2, A4, c4, O ++ [rN 1 V2.length], A3, c3, false, rfl, by rw [List.length_append]; rfl, rfl, Lib.hid (hAv.out.next (R := [rN 1 V2.length]) HG.out HFR.out (by have := HLN.out; omega) (Nat.le_refl _) HS3.out HO3.out HB3.out (by rw [HD.out]; exact HE.out))⟩
                case measure => simp [intOf]; omega
      · by_cases h2 : x.k = 2
        · have HNW := Lib.hid (heap_alloc_new wr (.cells #[.int .i64 2, .int .u32 (x.u : Int), .int .u8 (x.f : Int)] 55))
          have HSZ := Lib.hid (show wr.heap.size < (wr.alloc (.cells #[.int .i64 2, .int .u32 (x.u : Int), .int .u8 (x.f : Int)] 55)).heap.size by simp)
          have HB1 := Lib.hid (below_al wr (.cells #[.int .i64 2, .int .u32 (x.u : Int), .int .u8 (x.f : Int)] 55))
          have PC := Lib.hid (rpos_any (c := c2) x.u (by omega) hAv.out.good.1 (hAv.out.sl.below HB1.out))
          rw [h2] at hx
          by_cases hm : x.u ∈ V
          · have hp := posL_pos hm hAv.out.good.1
            have hgt : (0 : Int) < ((posL V x.u : Nat) : Int) := by omega
            have hwr : IntKind.u32.wrap ((posL V x.u : Nat) : Int) = ((posL V x.u : Nat) : Int) := IntWalk.u32_in _ (by omega)
            have HE := Lib.hid (ap_gone (G := G) (l := l.drop (k + 1)) h2 hm)
            have RC := Lib.hid (rremove_any (c := c2) x.u (by omega) (hAv.out.sl.below HB1.out))
            have HPL := Lib.hid (show remL V x.u = [] ∨ True from .inr trivial)
            generalize posL V x.u = p at *
            clear h2 hm HPL hp
            go_wp2_with fail
            refine PC.out.mono ?_
            rintro e w2 ⟨rfl, rfl⟩
            clear PC
            go_wp2_with fail
            refine RC.out.mono ?_
            rintro e w2 ⟨v2, rfl, ho2, hb2⟩
            obtain ⟨A4, c4, rfl⟩ := own_any ho2
            have HO := Lib.hid (own_below (own_below hAv.out.row HB1.out) hb2)
            have HB := Lib.hid ((hAv.out.be.trans (HB1.out.mono hAv.out.be.size)).trans (hb2.mono (Nat.le_trans hAv.out.be.size HB1.out.size)))
            have HS := Lib.hid (SlAt.of_own encU_len ho2)
            have HP := Lib.hid (show remL V x.u = [] ∨ Apart A4 Ao from ap_new (own_below hAv.out.row HB1.out) hAv.out.ap (.inr (own_from ho2)))
            have HG := Lib.hid (hAv.out.good.rem x.u)
            have HFR := Lib.hid (fun a ha => Nat.le_trans (Nat.le_trans hAv.out.be.size HB1.out.size) (own_from (A := A4) ho2 a ha))
            have HLN := Lib.hid (remL_len V x.u)
            clear RC ho2 hb2 HNW HSZ hx hx1 hx2
            generalize remL V x.u = V2 at *
            have HRW := Lib.hid (HO.out.alloc (.cells #[.int .i64 3, .int .u32 (p : Int), .string ⟨#[]⟩, .int .i64 0, .string ⟨#[]⟩, .int .i64 0, .int .u8 0, .int .u32 0, .int .u32 0, .slice none 0 0] 47))
            have HSE : Hid (SlAt enc0 10 (w2.alloc (.cells #[.int .i64 3, .int .u32 (p : Int), .string ⟨#[]⟩, .int .i64 0, .string ⟨#[]⟩, .int .i64 0, .int .u8 0, .int .u32 0, .int .u32 0, .slice none 0 0] 47)) (some ⟨w2.heap.size, 0, none⟩) [rN 3 p]) := Lib.hid (slAt_box rfl)
            have hBs := HB.out.size
            have hba : w.heap.size ≤ (w2.alloc (.cells #[.int .i64 3, .int .u32 (p : Int), .string ⟨#[]⟩, .int .i64 0, .string ⟨#[]⟩, .int .i64 0, .int .u8 0, .int .u32 0, .int .u32 0, .slice none 0 0] 47)).heap.size := by simp; omega
            go_wp2_with (at_builtin; refine wpList_append_slg _ rfl _ _ 29 rfl w.heap.size 47 i0 _ 104 Try.underlying29 hi hz0 hz1 hz2 rfl (by decide) _ O.length _ rfl HRW.out ⟨w2.heap.size, 0, none⟩ [rN 3 p] 1 1 rfl rfl enc0_len HSE.out (one_flat0 _) h63 h64 hba ?_; intro v' wz hown' hgrow hfr; obtain ⟨A3, c3, rfl⟩ := own_any hown'; have HB3 := Lib.hid ((HB.out.alloc hBs (.cells #[.int .i64 3, .int .u32 (p : Int), .string ⟨#[]⟩, .int .i64 0, .string ⟨#[]⟩, .int .i64 0, .int .u8 0, .int .u32 0, .int .u32 0, .slice none 0 0] 47)).grown hgrow hba (fun k hk => (HO.out.lt k hk).1)); have HS3 := Lib.hid (sl_apart (.cells #[.int .i64 3, .int .u32 (p : Int), .string ⟨#[]⟩, .int .i64 0, .string ⟨#[]⟩, .int .i64 0, .int .u8 0, .int .u32 0, .int .u32 0, .slice none 0 0] 47) HS.out HP.out hgrow hfr); have HO3 := Lib.hid hown'; clear hown' hgrow hfr)
            go_roundw
            case rel => exact ⟨k + 1, by omega, by go_num, V2, A4, c4, O ++ [rN 3 p], A3, c3, G, rfl, by rw [List.length_append]; rfl, rfl, Lib.hid (hAv.out.next (R := [rN 3 p]) HG.out (.inr HFR.out) (by have := HLN.out; omega) (Nat.le_refl _) HS3.out HO3.out HB3.out (by rw [HD.out]; exact HE.out))⟩
            case measure => simp [intOf]; omega
          · have hz : posL V x.u = 0 := if_neg hm
            have HE := Lib.hid (ap_not (G := G) (l := l.drop (k + 1)) (show x.k ≠ 1 by omega) hm)
            rw [hz] at PC
            have HS := Lib.hid (hAv.out.same hAv.out.good hAv.out.nw (by omega) ⟨hAv.out.sl.below HB1.out, hAv.out.ap⟩ HB1.out (by rw [HD.out]; exact HE.out))
            clear h2 hm hz
            go_wp2_with fail
            refine PC.out.mono ?_
            rintro e w2 ⟨rfl, rfl⟩
            clear PC
            go_wp2_with fail
            go_roundw
            case rel => exact ⟨k + 1, by omega, by go_num, V, A2, c2, O, Ao, co, G, rfl, rfl, rfl, HS⟩
            case measure => simp [intOf]; omega
        · by_cases h3 : x.k = 3
          · have HNW := Lib.hid (heap_alloc_new wr (.cells #[.int .i64 3, .int .u32 (x.u : Int), .int .u8 (x.f : Int)] 55))
            have HSZ := Lib.hid (show wr.heap.size < (wr.alloc (.cells #[.int .i64 3, .int .u32 (x.u : Int), .int .u8 (x.f : Int)] 55)).heap.size by simp)
            have HB1 := Lib.hid (below_al wr (.cells #[.int .i64 3, .int .u32 (x.u : Int), .int .u8 (x.f : Int)] 55))
            have PC := Lib.hid (rpos_any (c := c2) x.u (by omega) hAv.out.good.1 (hAv.out.sl.below HB1.out))
            rw [h3] at hx
            by_cases hm : x.u ∈ V
            · have hp := posL_pos hm hAv.out.good.1
              have hgt : (0 : Int) < ((posL V x.u : Nat) : Int) := by omega
              have hwr : IntKind.u32.wrap ((posL V x.u : Nat) : Int) = ((posL V x.u : Nat) : Int) := IntWalk.u32_in _ (by omega)
              have HE := Lib.hid (ap_chg (G := G) (l := l.drop (k + 1)) h3 hm)
              generalize posL V x.u = p at *
              clear h3 hm hp
              go_wp2_with fail
              refine PC.out.mono ?_
              rintro e w2 ⟨rfl, rfl⟩
              clear PC
              have hbox := HNW.out
              have z0 := cell_of_row _ _ 0 _ _ _ hbox
              have z1 := cell_of_row _ _ 1 _ _ _ hbox
              have z2 := cell_of_row _ _ 2 _ _ _ hbox
              have HO := Lib.hid (own_below hAv.out.row HB1.out)
              have HB := Lib.hid (hAv.out.be.trans (HB1.out.mono hAv.out.be.size))
              have HS := Lib.hid (hAv.out.sl.below HB1.out)
              have HP := Lib.hid hAv.out.ap
              clear HNW HSZ hx hx1 hx2 hbox
              go_upto_region 22 with (fail)
              generalize wr.alloc _ = w2 at *
              have HRW := Lib.hid (HO.out.alloc (.cells #[.int .i64 4, .int .u32 (p : Int), .string ⟨#[]⟩, .int .i64 0, .string ⟨#[]⟩, .int .i64 1, .int .u8 (x.f : Int), .int .u32 0, .int .u32 0, .slice none 0 0] 47))
              have HSE : Hid (SlAt enc0 10 (w2.alloc (.cells #[.int .i64 4, .int .u32 (p : Int), .string ⟨#[]⟩, .int .i64 0, .string ⟨#[]⟩, .int .i64 1, .int .u8 (x.f : Int), .int .u32 0, .int .u32 0, .slice none 0 0] 47)) (some ⟨w2.heap.size, 0, none⟩) [rF p x.f]) := Lib.hid (slAt_box rfl)
              have hBs := HB.out.size
              have hba : w.heap.size ≤ (w2.alloc (.cells #[.int .i64 4, .int .u32 (p : Int), .string ⟨#[]⟩, .int .i64 0, .string ⟨#[]⟩, .int .i64 1, .int .u8 (x.f : Int), .int .u32 0, .int .u32 0, .slice none 0 0] 47)).heap.size := by simp; omega
              go_wp2_with (at_builtin; refine wpList_append_slg _ rfl _ _ 29 rfl w.heap.size 47 i0 _ 104 Try.underlying29 hi hz0 hz1 hz2 rfl (by decide) _ O.length _ rfl HRW.out ⟨w2.heap.size, 0, none⟩ [rF p x.f] 1 1 rfl rfl enc0_len HSE.out (one_flat0 _) h63 h64 hba ?_; intro v' wz hown' hgrow hfr; obtain ⟨A3, c3, rfl⟩ := own_any hown'; have HB3 := Lib.hid ((HB.out.alloc hBs (.cells #[.int .i64 4, .int .u32 (p : Int), .string ⟨#[]⟩, .int .i64 0, .string ⟨#[]⟩, .int .i64 1, .int .u8 (x.f : Int), .int .u32 0, .int .u32 0, .slice none 0 0] 47)).grown hgrow hba (fun k hk => (HO.out.lt k hk).1)); have HS3 := Lib.hid (sl_apart (.cells #[.int .i64 4, .int .u32 (p : Int), .string ⟨#[]⟩, .int .i64 0, .string ⟨#[]⟩, .int .i64 1, .int .u8 (x.f : Int), .int .u32 0, .int .u32 0, .slice none 0 0] 47) HS.out HP.out hgrow hfr); have HO3 := Lib.hid hown'; clear hown' hgrow hfr)
              go_roundw
              case rel => exact ⟨k + 1, by omega, by go_num, V, A2, c2, O ++ [rF p x.f], A3, c3, G, rfl, by rw [List.length_append]; rfl, rfl, Lib.hid (hAv.out.next (R := [rF p x.f]) hAv.out.good hAv.out.nw (by omega) (Nat.le_refl _) HS3.out HO3.out HB3.out (by rw [HD.out]; exact HE.out))⟩
              case measure => simp [intOf]; omega
            · have hz : posL V x.u = 0 := if_neg hm
              have HE := Lib.hid (ap_not (G := G) (l := l.drop (k + 1)) (show x.k ≠ 1 by omega) hm)
              rw [hz] at PC
              have HS := Lib.hid (hAv.out.same hAv.out.good hAv.out.nw (by omega) ⟨hAv.out.sl.below HB1.out, hAv.out.ap⟩ HB1.out (by rw [HD.out]; exact HE.out))
              clear h3 hm hz
              go_wp2_with fail
              refine PC.out.mono ?_
              rintro e w2 ⟨rfl, rfl⟩
              clear PC
              go_wp2_with fail
              go_roundw
              case rel => exact ⟨k + 1, by omega, by go_num, V, A2, c2, O, Ao, co, G, rfl, rfl, rfl, HS⟩
              case measure => simp [intOf]; omega
          · have HNW := Lib.hid (heap_alloc_new wr (.cells #[.int .i64 x.k, .int .u32 (x.u : Int), .int .u8 (x.f : Int)] 55))
            have HSZ := Lib.hid (show wr.heap.size < (wr.alloc (.cells #[.int .i64 x.k, .int .u32 (x.u : Int), .int .u8 (x.f : Int)] 55)).heap.size by simp)
            have HB1 := Lib.hid (below_al wr (.cells #[.int .i64 x.k, .int .u32 (x.u : Int), .int .u8 (x.f : Int)] 55))
            have PC := Lib.hid (rpos_any (c := c2) x.u (by omega) hAv.out.good.1 (hAv.out.sl.below HB1.out))
            have HE := Lib.hid (ap_other (G := G) (V := V) (l := l.drop (k + 1)) h1 h2 h3)
            have HS := Lib.hid (hAv.out.same hAv.out.good hAv.out.nw (by omega) ⟨hAv.out.sl.below HB1.out, hAv.out.ap⟩ HB1.out (by rw [HD.out]; exact HE.out))
            have n1 : (x.k == 1) = false := beq_eq_false_iff_ne.2 h1
            have n2 : (x.k == 2) = false := beq_eq_false_iff_ne.2 h2
            have n3 : (x.k == 3) = false := beq_eq_false_iff_ne.2 h3
            go_wp2_with fail
            refine PC.out.mono ?_
            rintro e w2 ⟨rfl, rfl⟩
            clear PC
            go_wp2_with fail
            go_roundw
            case rel => exact ⟨k + 1, by omega, by go_num, V, A2, c2, O, Ao, co, G, rfl, rfl, rfl, HS⟩
            case measure => simp [intOf]; omega
    · obtain rfl : k = l.length := by omega
      obtain ⟨e1, e2⟩ := hAv.out.stop
      subst e1
      subst e2
      go_wp2_with fail
      go_ret2
      exact ⟨_, _, _, _, rfl, hAv.out.sl, hAv.out.nw, hAv.out.row, hAv.out.be⟩
end
set_option maxRecDepth 100000 in
/-- Follow. -/
theorem rfollow17_any (n : Nat) (hn : n ≤ 4294967295) (r : RI) (A : Option Addr) (c : Nat) (hr : r.n ≤ 4294967295) (w : World) :
    Calls Try.prog 22 #[.int .i64 (n : Int), rsV r A c] w fun e w' => e = .returned (.tuple #[.int .i64 ((folV n r).1 : Int), .bool (folV n r).2]) ∧ Below w.heap.size w w' := by
  obtain ⟨kind, m, tag, status, text, items, flags, uid, size, body⟩ := r
  simp only at hr
  unfold folV rsV
  simp only
  have HB := Lib.hid (below_al w (.cells #[.int .i64 kind, .int .u32 (m : Int), .string ⟨tag.toArray⟩, .int .i64 status, .string ⟨text.toArray⟩, .int .i64 items, .int .u8 (flags : Int), .int .u32 (uid : Int), .int .u32 (size : Int), .slice A body.length c] 47))
  have hw : IntKind.i64.wrap (m : Int) = (m : Int) := IntWalk.i64_in _ (by omega)
  generalize ByteArray.mk tag.toArray = v2 at *
  generalize ByteArray.mk text.toArray = v4 at *
  generalize (flags : Int) = v6 at *
  generalize (uid : Int) = v7 at *
  generalize (size : Int) = v8 at *
  generalize body.length = v9 at *
  by_cases h1 : kind = 1
  · subst h1
    rw [if_pos rfl]
    go_enter Try.func22, Try.ntmps22
    go_wp2_with fail
    go_ret2
    refine ⟨?_, HB.out⟩
    simp
    omega
  · have n1 : (kind == 1) = false := beq_eq_false_iff_ne.2 h1
    rw [if_neg h1]
    by_cases h3 : kind = 3
    · subst h3
      rw [if_pos rfl]
      clear h1 n1
      by_cases a1 : 1 ≤ m
      · by_cases a2 : m ≤ n
        · have b1 : ¬ (m : Int) < 1 := by omega
          have b2 : ¬ (n : Int) < (m : Int) := by omega
          have hs : ((n - 1 : Nat) : Int) = (n : Int) - 1 := by omega
          rw [if_pos ⟨a1, a2⟩, hs]
          have hw2 : IntKind.i64.wrap ((n : Int) - 1) = (n : Int) - 1 := IntWalk.i64_in _ (by omega)
          clear a1 a2 hs
          go_enter Try.func22, Try.ntmps22
          go_wp2_with fail
          go_ret2
          exact ⟨rfl, HB.out⟩
        · have b1 : ¬ (m : Int) < 1 := by omega
          have b2 : (n : Int) < (m : Int) := by omega
          rw [if_neg (fun h => a2 h.2)]
          clear a1 a2
          go_enter Try.func22, Try.ntmps22
          go_wp2_with fail
          go_ret2
          exact ⟨rfl, HB.out⟩
      · have b1 : (m : Int) < 1 := by omega
        rw [if_neg (fun h => a1 h.1)]
        clear a1
        go_enter Try.func22, Try.ntmps22
        go_wp2_with fail
        go_ret2
        exact ⟨rfl, HB.out⟩
    · have n3 : (kind == 3) = false := beq_eq_false_iff_ne.2 h3
      rw [if_neg h3]
      by_cases h4 : kind = 4
      · subst h4
        rw [if_pos rfl]
        clear h1 n1 h3 n3
        by_cases a1 : 1 ≤ m
        · have b1 : (1 : Int) ≤ (m : Int) := by omega
          go_enter Try.func22, Try.ntmps22
          go_wp2_with fail
          go_ret2
          refine ⟨?_, HB.out⟩
          simp
          omega
        · have b1 : ¬ (1 : Int) ≤ (m : Int) := by omega
          rw [decide_eq_false (fun h => a1 h.1)]
          clear a1
          go_enter Try.func22, Try.ntmps22
          go_wp2_with fail
          go_ret2
          exact ⟨rfl, HB.out⟩
      · have n4 : (kind == 4) = false := beq_eq_false_iff_ne.2 h4
        rw [if_neg h4]
        go_enter Try.func22, Try.ntmps22
        go_wp2_with fail
        go_ret2
        exact ⟨rfl, HB.out⟩
end Go.Proofs.Ytefodmbaknedkaa
