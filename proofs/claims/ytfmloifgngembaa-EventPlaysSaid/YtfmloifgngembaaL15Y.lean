/- The law EventPlays. By wip/gen/mk15y.py. -/
import Derived.Test.YtfmloifgngembaaL15D
import Derived.Test.YtfmloifgngembaaRf15F
import Derived.WalkSmall
namespace Go.Proofs.Ytfmloifgngembaa
open Go.RowKit

/-- A call of layer 15: its kind, its events. -/
structure Op15 where
  k : Int
  A : Option Addr
  c : Nat
  es : List EvI
def encOp15 (x : Op15) : List Value := [.int .i64 x.k, .slice x.A x.es.length x.c]
theorem encOp15_len (x : Op15) : (encOp15 x).length = 2 := rfl
instance : Inhabited Op15 := ⟨⟨0, none, 0, []⟩⟩
/-- Calls, and their events, where they lie. -/
def OpsAt (W : World) (A : Option Addr) (l : List Op15) : Prop := SlAt encOp15 2 W A l ∧ ∀ x ∈ l, SlAt encEv 3 W x.A x.es ∧ ∀ e ∈ x.es, evOk e
theorem SlAt.op15 {w : World} {A : Option Addr} {l : List Op15} (h : SlAt encOp15 2 w A l) {j : Nat} (hj : j < l.length) :
    ∃ b off, A = some ⟨b, off, none⟩ ∧ b < w.heap.size ∧ w.cell? ⟨b, off + j * 2, none⟩ = some (.int .i64 l[j].k) ∧ w.cell? ⟨b, off + j * 2 + 1, none⟩ = some (.slice l[j].A l[j].es.length l[j].c) := by
  obtain ⟨b, off, hA, hb, hc⟩ := h.at_ hj
  exact ⟨b, off, hA, hb, by simpa using hc 0 _ rfl, hc 1 _ rfl⟩
def fewE (l : List Op15) : Bool := (l.all fun o => decide (o.es.length ≤ 30)) && decide (l.length ≤ 40)
set_option maxRecDepth 100000 in
set_option maxHeartbeats 1000000 in
theorem few15_any (A : Option Addr) (c : Nat) (l : List Op15) (hlm : l.length ≤ maxLen) (hes : ∀ x ∈ l, x.es.length ≤ maxLen) (w : World) (hS : SlAt encOp15 2 w A l) :
    Calls Try.prog 9 #[.slice A l.length c] w fun e w' => e = .returned (.bool (fewE l)) ∧ Below w.heap.size w w' := by
  unfold maxLen at hlm hes
  have HS := Lib.hid hS
  have HE := Lib.hid hes
  clear hS hes
  generalize hr : fewE l = r
  have HR := Lib.hid hr
  clear hr
  go_enter Try.func9, Try.ntmps9
  go_wp2_with fail
  go_loopw [7] (fun i wr => ∃ k : Nat, k ≤ l.length ∧ i = .int .i64 k ∧ Hid (∀ j (hj : j < l.length), j < k → l[j].es.length ≤ 30) ∧ Hid (Below w.heap.size w wr)) (fun i _ => l.length - (intOf i).toNat)
  case atStart => exact ⟨0, Nat.zero_le _, rfl, Lib.hid (fun j _ h => absurd h (Nat.not_lt_zero _)), Lib.hid (Below.refl _ _)⟩
  case round =>
    obtain ⟨k, hk, rfl, ha, hB⟩ := hrel
    have hk0 : (0 : Int) ≤ (k : Int) := by omega
    by_cases hlt : k < l.length
    · obtain ⟨b, off, rfl, hb, x0, x1⟩ := (HS.out.below hB.out).op15 hlt
      have hk1 : (k : Int) < (l.length : Int) := by omega
      have hel := HE.out l[k] (List.getElem_mem hlt)
      have HB2 := Lib.hid (below_next hB.out (below_al wr (.cells #[.int .i64 l[k].k, .slice l[k].A l[k].es.length l[k].c] 30)))
      by_cases h30 : l[k].es.length ≤ 30
      · have hi30 : ¬ (30 : Int) < (l[k].es.length : Int) := by omega
        have HN := Lib.hid (show ∀ j (hj : j < l.length), j < k + 1 → l[j].es.length ≤ 30 by
          intro j hj h
          rcases Nat.lt_or_ge j k with h2 | h2
          · exact ha.out j hj h2
          · obtain rfl : j = k := by omega
            exact h30)
        clear ha h30
        generalize l[k].es.length = n at *
        generalize l[k].k = kk at *
        generalize l[k].A = Ax at *
        generalize l[k].c = cx at *
        go_wp2_with fail
        go_roundw
        case rel => exact ⟨k + 1, by omega, by go_num, HN, HB2⟩
        case measure => simp [intOf]; omega
      · have hi30 : (30 : Int) < (l[k].es.length : Int) := by omega
        obtain rfl : r = false := by
          rw [← HR.out]
          unfold fewE
          have : (l.all fun o => decide (o.es.length ≤ 30)) = false := by
            rw [List.all_eq_false]
            exact ⟨l[k], List.getElem_mem hlt, by simpa using h30⟩
          rw [this]
          rfl
        clear ha h30 HR
        generalize l[k].es.length = n at *
        generalize l[k].k = kk at *
        generalize l[k].A = Ax at *
        generalize l[k].c = cx at *
        go_wp2_with fail
        go_ret
        exact ⟨rfl, HB2.out⟩
    · obtain rfl : k = l.length := by omega
      obtain rfl : r = decide ((l.length : Int) ≤ 40) := by
        rw [← HR.out]
        unfold fewE
        have : (l.all fun o => decide (o.es.length ≤ 30)) = true := by
          rw [List.all_eq_true]
          intro x hx
          obtain ⟨j, hj, rfl⟩ := List.mem_iff_getElem.1 hx
          exact decide_eq_true (ha.out j hj hj)
        rw [this, Bool.true_and, decide_eq_decide]
        omega
      clear ha HR
      go_wp2_with fail
      go_ret
      exact ⟨rfl, hB.out⟩
section
variable {B g : Nat} {o : Option Nat} {q : List EvI} {rows : List EvRow} {w0 W W' : World}
theorem QX.addL {rs : List EvRow} (h : QX B g o q rows w0 W) (hb : Below W.heap.size W W') (hr : ∀ r ∈ rs, r.own W.heap.size W') : QX B g o q (rs ++ rows) w0 W' := by
  have h' := h.below hb
  obtain ⟨S, h1, h2, h3, h4⟩ := h.tb
  have k := KeptO.of_below (S := fun _ => False) hb
  have hn : ∀ S' : Nat → Prop, (∀ k, S' k → k < W.heap.size) → ∀ r ∈ rs, Out S' r.A := fun S' hS r hrr a ha e => by
    have := ((hr r hrr).lt ⟨a, ha, rfl⟩).1
    have := hS _ e
    omega
  refine ⟨⟨S, h1.kept k fun _ _ => id, h2, fun r' hr' => ?_, fun g2 e => ?_⟩, fun r' hr' => ?_, h'.be, h'.sz⟩
  · rcases List.mem_append.1 hr' with e | e
    · exact hn S h1.lt r' e
    · exact h3 r' e
  · obtain ⟨S2, k1, k2, k3⟩ := h4 g2 e
    refine ⟨S2, k1.kept k fun _ _ => id, k2, fun r' hr' => ?_⟩
    rcases List.mem_append.1 hr' with e | e
    · exact hn S2 k1.lt r' e
    · exact k3 r' e
  · rcases List.mem_append.1 hr' with e | e
    · exact (hr r' e).mono h.sz
    · exact h'.rw r' e
/-- Push leaves what is newer than the queue. -/
theorem QX.pushF (h : QX B g o q rows w0 W) (hb : Below W.heap.size W W') (A : Option Addr) (c : Nat) (l : List EvI) (hl : l.length ≤ 1000) (hq : q.length ≤ 100000) (hok : ∀ x ∈ l, evOk x) (hS : SlAt encEv 3 W' A l) (hO : l = [] ∨ ∀ a, A = some a → a.block < B) :
    Calls Try.prog 12 #[.pointer (some ⟨g, 0, none⟩), .slice A l.length c] W' fun e w' => e = .returned (.tuple #[]) ∧ QX B g o (pushE q l) rows w0 w' ∧ ∀ b x, W.heap.size ≤ b → W'.heap[b]? = some x → w'.heap[b]? = some x := by
  have h' := h.below hb
  obtain ⟨S, h1, _⟩ := h.tb
  have hlt := h1.lt
  obtain ⟨S, h1, h2, h3, h4⟩ := h.tb
  have k := KeptO.of_below (S := fun _ => False) hb
  have h1' := h1.kept k fun _ _ => id
  have h4' : ∀ g2, o = some g2 → ∃ S2, QT g2 S2 [] W' ∧ (∀ k, S2 k → B ≤ k ∧ ¬ S k) ∧ ∀ r ∈ rows, Out S2 r.A := fun g2 e => by
    obtain ⟨S2, k1, k2⟩ := h4 g2 e
    exact ⟨S2, k1.kept k fun _ _ => id, k2⟩
  refine (qpush_any A c l hl hq hok hS ?_ h1').mono ?_
  · rcases hO with hO | hO
    · exact .inl hO
    · refine .inr fun a ha e => ?_
      have := hO a ha
      have := h2 _ e
      omega
  · rintro e w' ⟨S', rfl, t, m, kk⟩
    exact ⟨rfl, h'.next h2 h3 h4' t m kk, fun b x hb2 hx => kk.heap hx fun e => by have := h1.lt b e; omega⟩
end
set_option maxRecDepth 100000 in
set_option maxHeartbeats 4000000 in
theorem plays_main (A : Option Addr) (c : Nat) (l : List Op15) (hl : l.length ≤ 40) (hes : ∀ x ∈ l, x.es.length ≤ 30) (u : Nat) (hu : u ≤ 4294967295) (w : World) (hS : OpsAt w A l) :
    Calls Try.prog 3 #[.slice A l.length c, .int .u32 u] w fun e w' => e = .returned (.bool true) ∧ Below w.heap.size w w' := by
  have FW := few15_any A c l (by unfold maxLen; omega) (fun x hx => by have := hes x hx; unfold maxLen; omega) w hS.1
  have hf : fewE l = true := by
    unfold fewE
    rw [Bool.and_eq_true, List.all_eq_true]
    exact ⟨fun x hx => decide_eq_true (hes x hx), decide_eq_true hl⟩
  rw [hf] at FW
  have FW := Lib.hid FW
  have AL := Lib.hid (fun W => alive15_any W)
  have HS := Lib.hid hS
  have HE := Lib.hid hes
  have N := Lib.hid (fun W => qnew_any W)
  clear hS hes hf
  go_enter Try.func3, Try.ntmps3
  go_wp2_with fail
  refine FW.out.mono ?_
  rintro e w1 ⟨rfl, hb1⟩
  have HB1 := Lib.hid hb1
  clear hb1 FW
  go_wp2_with fail
  refine (N.out _).mono ?_
  rintro e w2 ⟨g, S, rfl, t2, s2, hb2⟩
  have Q0 := Lib.hid (QX.start (w0 := w) rfl t2 (fun k hk => Nat.le_trans HB1.out.size (s2 k hk)) (below_next HB1.out hb2))
  have Q1 := Lib.hid (Q0.out.add (r := ⟨none, 0, []⟩) (Below.refl _ _) (World.ownsRow_nil _ _ _ _))
  clear t2 s2 hb2 Q0 HB1 N
  go_wp2_with fail
  go_loopw [20, 6] (fun i v wr => ∃ k : Nat, k ≤ l.length ∧ i = .int .i64 k ∧ ∃ (Aq : Option Addr) (cq : Nat) (q : List EvI), v = .slice Aq q.length cq ∧ Hid (q.length ≤ 30 * k) ∧ Hid (QX w.heap.size g none q [⟨Aq, cq, q⟩] w wr)) (fun i _ _ => l.length - (intOf i).toNat)
  case atStart => exact ⟨0, Nat.zero_le _, rfl, none, 0, [], rfl, Lib.hid (Nat.le_refl _), Q1⟩
  case round =>
    obtain ⟨k, hk, rfl, Aq, cq, q, rfl, hql, hX⟩ := hrel
    clear Q1
    have hk0 : (0 : Int) ≤ (k : Int) := by omega
    by_cases hlt : k < l.length
    · obtain ⟨b, off, rfl, hb, x0, x1⟩ := (HS.out.1.below hX.out.be).op15 hlt
      have hk1 : (k : Int) < (l.length : Int) := by omega
      have HA := Lib.hid (HS.out.2 l[k] (List.getElem_mem hlt))
      have hel := HE.out l[k] (List.getElem_mem hlt)
      have hbox := heap_alloc_new wr (.cells #[.int .i64 l[k].k, .slice l[k].A l[k].es.length l[k].c] 30)
      have HBA := Lib.hid (below_al wr (.cells #[.int .i64 l[k].k, .slice l[k].A l[k].es.length l[k].c] 30))
      generalize l[k].k = kk at *
      generalize l[k].A = Ax at *
      generalize l[k].c = cx at *
      generalize l[k].es = es at *
      have HBX := Lib.hid hbox
      have hql2 := hql.out
      clear hbox
      by_cases h0 : kk = 0
      · subst h0
        have P1 := Lib.hid (hX.out.pushF HBA.out Ax cx es (by omega) (by omega) HA.out.2 ((HA.out.1.below hX.out.be).below HBA.out) (arg_low HA.out.1))
        have RP := Lib.hid (fun W (h : QX w.heap.size g none (pushE q es) [⟨Aq, cq, q⟩] w W) => rpush15_any (A := Aq) (A2 := Ax) (c := cq) (c2 := cx) (q := q) (l := es) (w := W) (by omega) (by omega) (h.rw _ (List.mem_cons_self ..)).sl (HA.out.1.below h.be))
        have hPL := pushE_len q es
        generalize hqn : q.length = qn at *
        generalize hen : es.length = en at *
        clear hqn hen
        go_wp2_with fail
        generalize wr.alloc (.cells #[.int .i64 0, .slice Ax en cx] 30) = wa at *
        refine P1.out.mono ?_
        rintro e w3 ⟨rfl, q3, f3⟩
        have hbx := f3 _ _ (Nat.le_refl _) HBX.out
        have b0 := cell_of_row _ _ 0 _ _ _ hbx
        have b1 := cell_of_row _ _ 1 _ _ _ hbx
        have Q3 := Lib.hid q3
        have RP3 := Lib.hid (RP.out _ q3)
        clear q3 f3 hbx P1 RP HBX HBA hX
        go_wp2_with fail
        refine RP3.out.mono ?_
        rintro e w4 ⟨v4, rfl, h4, hb4⟩
        obtain ⟨A4, c4, rfl⟩ := own_any h4
        have Q4 := Lib.hid ((Q3.out.add (r := ⟨A4, c4, pushE q es⟩) hb4 h4).sub (rows' := [⟨A4, c4, pushE q es⟩]) fun r hr => by rw [List.mem_singleton.1 hr]; exact List.mem_cons_self ..)
        clear h4 hb4 RP3 Q3 b0 b1
        have HQL := Lib.hid (show (pushE q es).length ≤ 30 * (k + 1) from by omega)
        have CL := Lib.hid (Q4.out.len (by have := HQL.out; omega))
        have CR := Lib.hid (fun W (h : QX w.heap.size g none (pushE q es) [⟨A4, c4, pushE q es⟩] w W) => rhas15_any (c := c4) (l := pushE q es) u (by have := HQL.out; omega) (h.rw _ (List.mem_cons_self ..)).sl)
        have CH := Lib.hid (fun W (h : QX w.heap.size g none (pushE q es) [⟨A4, c4, pushE q es⟩] w W) => h.has u hu (by have := HQL.out; omega))
        generalize hn : (pushE q es).length = n at *
        have LenH := Lib.hid hn
        have HQ2 := Lib.hid (show Hid ((pushE q es).length ≤ 30 * (k + 1)) from Lib.hid (by rw [LenH.out]; exact HQL.out))
        clear hn
        go_wp2_with fail
        refine CL.out.mono ?_
        rintro e wl ⟨rfl, ql⟩
        have CH1 := Lib.hid (CH.out _ ql)
        clear ql CL CH
        go_wp2_with fail
        refine CH1.out.mono ?_
        rintro e wh ⟨rfl, qh⟩
        have QH := Lib.hid qh
        have CR1 := Lib.hid (CR.out _ qh)
        clear qh CH1 CR
        go_wp2_with fail
        refine CR1.out.mono ?_
        rintro e wz ⟨rfl, rfl⟩
        clear CR1
        go_wp2_with fail
        go_roundw
        case rel => exact ⟨k + 1, by omega, by go_num, A4, c4, pushE q es, by rw [LenH.out], HQ2.out, QH⟩
        case measure => simp [intOf]; omega
      · have e0 : (kk == 0) = false := beq_eq_false_iff_ne.2 h0
        by_cases h3 : kk = 3
        · subst h3
          have P1 := Lib.hid ((hX.out.below HBA.out).clear (by omega))
          generalize hqn : q.length = qn at *
          clear hqn
          generalize hen : es.length = en at *
          clear hen
          go_wp2_with fail
          generalize wr.alloc (.cells #[.int .i64 3, .slice Ax en cx] 30) = wa at *
          refine P1.out.mono ?_
          rintro e w3 ⟨rfl, q3⟩
          have Q4 := Lib.hid (((q3.sub (rows' := []) (fun r hr => by cases hr)).add (r := ⟨none, 0, []⟩) (Below.refl _ _) (World.ownsRow_nil _ _ _ _)))
          clear q3 P1 HBX HBA hX h0
          have HQL := Lib.hid (show (([] : List EvI)).length ≤ 30 * (k + 1) from by simp)
          have CL := Lib.hid (Q4.out.len (by have := HQL.out; omega))
          have CR := Lib.hid (fun W (h : QX w.heap.size g none (([] : List EvI)) [⟨none, 0, ([] : List EvI)⟩] w W) => rhas15_any (c := 0) (l := ([] : List EvI)) u (by have := HQL.out; omega) (h.rw _ (List.mem_cons_self ..)).sl)
          have CH := Lib.hid (fun W (h : QX w.heap.size g none (([] : List EvI)) [⟨none, 0, ([] : List EvI)⟩] w W) => h.has u hu (by have := HQL.out; omega))
          have HQ2 := Lib.hid HQL
          simp only [List.length_nil] at CL CR CH
          go_wp2_with fail
          refine CL.out.mono ?_
          rintro e wl ⟨rfl, ql⟩
          have CH1 := Lib.hid (CH.out _ ql)
          clear ql CL CH
          go_wp2_with fail
          refine CH1.out.mono ?_
          rintro e wh ⟨rfl, qh⟩
          have QH := Lib.hid qh
          have CR1 := Lib.hid (CR.out _ qh)
          clear qh CH1 CR
          go_wp2_with fail
          refine CR1.out.mono ?_
          rintro e wz ⟨rfl, rfl⟩
          clear CR1
          go_wp2_with fail
          go_roundw
          case rel => exact ⟨k + 1, by omega, by go_num, none, 0, ([] : List EvI), rfl, HQ2.out, QH⟩
          case measure => simp [intOf]; omega
        · have e3 : (kk == 3) = false := beq_eq_false_iff_ne.2 h3
          have key : ∃ gone : Bool, gone = (kk == 2) := ⟨_, rfl⟩
          obtain ⟨gone, hg⟩ := key
          have RF := Lib.hid (rflush15_any (c := cq) (l := q) (w := wr.alloc (.cells #[.int .i64 kk, .slice Ax es.length cx] 30)) gone (by omega) ((hX.out.below HBA.out).rw _ (List.mem_cons_self ..)).sl)
          have QA := Lib.hid (hX.out.below HBA.out)
          have FL := Lib.hid (fun W (h : QX w.heap.size g none q [⟨Aq, cq, q⟩] w W) => h.flush gone (by omega))
          have hTL := toldE_len gone q
          have hRL := restE_len gone q
          have hSL := sqE_len (toldE gone q)
          have hbz : wr.heap.size < (wr.alloc (.cells #[.int .i64 kk, .slice Ax es.length cx] 30)).heap.size := by simp
          generalize hqn : q.length = qn at *
          have LQ := Lib.hid hqn
          clear hqn
          generalize hen : es.length = en at *
          clear hen
          have hg2 : (kk == 2) = gone := hg.symm
          clear hg
          go_wp2_with fail
          generalize wr.alloc (.cells #[.int .i64 kk, .slice Ax en cx] 30) = wa at *
          refine RF.out.mono ?_
          rintro e w3 ⟨v3, v4, rfl, h3', h4', hb3⟩
          obtain ⟨A3, c3, rfl⟩ := own_any h3'
          obtain ⟨A4, c4, rfl⟩ := own_any h4'
          have hbx := (hb3.block _ hbz).trans HBX.out
          have b0 := cell_of_row _ _ 0 _ _ _ hbx
          have Q3 := Lib.hid (QA.out.below hb3)
          have Q5 := Lib.hid (QA.out.addL (rs := [⟨A3, c3, sqE (toldE gone q)⟩, ⟨A4, c4, restE gone q⟩]) hb3 (fun r hr => by
            rcases List.mem_cons.1 hr with e | e
            · rw [e]; exact h3'
            · rw [List.mem_singleton.1 e]; exact h4'))
          have F5 := Lib.hid (fun W (h : QX w.heap.size g none q [⟨A3, c3, sqE (toldE gone q)⟩, ⟨A4, c4, restE gone q⟩, ⟨Aq, cq, q⟩] w W) => h.flush gone (by rw [LQ.out]; omega))
          have F5 := Lib.hid (F5.out _ Q5.out)
          clear hbx RF HBX FL Q3 QA h3' h4' hb3 HBA hX
          have hrl : (restE gone q).length ≤ 30 * (k + 1) := by omega
          have hsq : (sqE (toldE gone q)).length ≤ 100000 := by omega
          go_wp2_with fail
          refine F5.out.mono ?_
          rintro e w4 ⟨⟨A6, c6, l6⟩, rfl, e6, q6⟩
          obtain rfl : l6 = sqE (toldE gone q) := e6
          have Q6 := Lib.hid q6
          have EQ := equalEv_any A6 A3 c6 c3 (sqE (toldE gone q)) (sqE (toldE gone q)) (by omega) (by omega) w4 (q6.rw _ (List.mem_cons_self ..)).sl (q6.rw _ (List.mem_cons_of_mem _ (List.mem_cons_self ..))).sl
          rw [decide_eq_true rfl] at EQ
          have EQ := Lib.hid EQ
          clear q6 F5 b0 Q5
          generalize hsqn : (sqE (toldE gone q)).length = sqn at *
          clear hsqn
          go_wp2_with fail
          refine EQ.out.mono ?_
          rintro e w5 ⟨rfl, hb5⟩
          have Q7 := Lib.hid ((Q6.out.below hb5).sub (rows' := [⟨A4, c4, restE gone q⟩]) fun r hr => by rw [List.mem_singleton.1 hr]; simp)
          clear hb5 EQ Q6
          have HQL := Lib.hid (show (restE gone q).length ≤ 30 * (k + 1) from hrl)
          have CL := Lib.hid (Q7.out.len (by have := HQL.out; omega))
          have CR := Lib.hid (fun W (h : QX w.heap.size g none (restE gone q) [⟨A4, c4, restE gone q⟩] w W) => rhas15_any (c := c4) (l := restE gone q) u (by have := HQL.out; omega) (h.rw _ (List.mem_cons_self ..)).sl)
          have CH := Lib.hid (fun W (h : QX w.heap.size g none (restE gone q) [⟨A4, c4, restE gone q⟩] w W) => h.has u hu (by have := HQL.out; omega))
          generalize hn : (restE gone q).length = n at *
          have LenH := Lib.hid hn
          have HQ2 := Lib.hid (show Hid ((restE gone q).length ≤ 30 * (k + 1)) from Lib.hid (by rw [LenH.out]; exact HQL.out))
          clear hn
          go_wp2_with fail
          refine CL.out.mono ?_
          rintro e wl ⟨rfl, ql⟩
          have CH1 := Lib.hid (CH.out _ ql)
          clear ql CL CH
          go_wp2_with fail
          refine CH1.out.mono ?_
          rintro e wh ⟨rfl, qh⟩
          have QH := Lib.hid qh
          have CR1 := Lib.hid (CR.out _ qh)
          clear qh CH1 CR
          go_wp2_with fail
          refine CR1.out.mono ?_
          rintro e wz ⟨rfl, rfl⟩
          clear CR1
          go_wp2_with fail
          go_roundw
          case rel => exact ⟨k + 1, by omega, by go_num, A4, c4, restE gone q, by rw [LenH.out], HQ2.out, QH⟩
          case measure => simp [intOf]; omega
    · obtain rfl : k = l.length := by omega
      have HB := Lib.hid hX.out.be
      have HZ := Lib.hid hX.out.sz
      clear hX
      go_wp2_with fail
      refine (AL.out _).mono ?_
      rintro e w9 ⟨rfl, hb9⟩
      have HF := Lib.hid (HB.out.trans (hb9.mono HZ.out))
      clear hb9 AL
      go_wp2_with fail
      go_ret
      exact ⟨rfl, HF.out⟩
theorem eventPlays_law {w0 : World} (A : Option Addr) (c : Nat) (l : List Op15) (hlm : l.length ≤ maxLen) (hok : ∀ o ∈ l, o.es.length ≤ maxLen ∧ SlAt encEv 3 w0 o.A o.es ∧ ∀ e ∈ o.es, evOk e) (u : Nat) (hu : u ≤ 4294967295) (w : World) (hw : w = w0) (hS : SlAt encOp15 2 w A l) :
    Calls Try.prog 3 #[.slice A l.length c, .int .u32 u] w fun e w' => e = .returned (.bool true) ∧ Below w.heap.size w w' := by
  subst hw
  by_cases hf : fewE l = true
  · have hf2 := hf
    unfold fewE at hf2
    rw [Bool.and_eq_true, List.all_eq_true] at hf2
    exact plays_main A c l (of_decide_eq_true hf2.2) (fun x hx => of_decide_eq_true (hf2.1 x hx)) u hu w ⟨hS, fun x hx => (hok x hx).2⟩
  · have FW := few15_any A c l hlm (fun x hx => (hok x hx).1) w hS
    rw [show fewE l = false by simpa using hf] at FW
    have FW := Lib.hid FW
    have AL := Lib.hid (fun W => alive15_any W)
    clear hS hok hf hlm
    generalize l.length = n at *
    go_enter Try.func3, Try.ntmps3
    go_wp2_with fail
    refine FW.out.mono ?_
    rintro e w1 ⟨rfl, hb1⟩
    have HB1 := Lib.hid hb1
    clear hb1 FW
    go_wp2_with fail
    refine (AL.out _).mono ?_
    rintro e w2 ⟨rfl, hb2⟩
    have HB2 := Lib.hid (below_next HB1.out hb2)
    clear hb2 AL HB1
    go_wp2_with fail
    go_ret
    exact ⟨rfl, HB2.out⟩
end Go.Proofs.Ytfmloifgngembaa
