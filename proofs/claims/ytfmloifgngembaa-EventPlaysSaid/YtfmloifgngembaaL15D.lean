/- The law EventDivides. -/
import Derived.Test.YtfmloifgngembaaL15Z
import Derived.Test.YtfmloifgngembaaEvFun
import Derived.Test.YtfmloifgngembaaEvCl
namespace Go.Proofs.Ytfmloifgngembaa
open Go.RowKit

theorem fil3 (p q r s : EvI → Bool) (h : ∀ x, (p x && q x && r x) = s x) (l : List EvI) : ((l.filter p).filter q).filter r = l.filter s := by
  rw [List.filter_filter, List.filter_filter]
  exact List.filter_congr fun x _ => by rw [← h x]; cases p x <;> cases q x <;> cases r x <;> rfl
theorem fil_none (p : EvI → Bool) (h : ∀ x, p x = false) (l : List EvI) : l.filter p = [] := List.filter_eq_nil_iff.2 fun x _ => by simp [h x]
/-- What is told of each kind, in two flushes. -/
theorem divides_eq (l : List EvI) (kk : Int) (hk : kk = 1 ∨ kk = 2) : (sqE (toldE false (pushE [] l)) ++ sqE (toldE true (restE false (pushE [] l)))).filter (fun x => !(x.k != kk)) = l.filter (fun x => !(x.k != kk)) := by
  have h3 : ∀ e : EvI, (!(e.k != kk)) = true → e.k ≠ 3 := fun e he => by
    have : e.k = kk := by simpa using he
    omega
  rw [List.filter_append, sqE_filter _ h3, sqE_filter _ h3]
  unfold pushE toldE
  rw [List.nil_append, fil3 _ _ (fun x => !(x.k != kk)) _ (fun _ => rfl)]
  unfold restE
  rw [fil3 _ _ (fun e => true || decide (e.k ≠ 2)) (fun x => knownE x && !(false || decide (x.k ≠ 2))) (fun x => by cases knownE x <;> simp), List.filter_filter]
  rcases hk with rfl | rfl
  · rw [fil_none (fun a => !(a.k != 1) && (knownE a && !(false || decide (a.k ≠ 2)))) (fun x => ?_), List.append_nil]
    · refine List.filter_congr fun x _ => ?_
      rw [Bool.eq_iff_iff]
      simp [knownE]
      omega
    · by_cases e : x.k = 1 <;> simp [e]
  · rw [fil_none _ (fun x => ?_), List.nil_append]
    · refine List.filter_congr fun x _ => ?_
      rw [Bool.eq_iff_iff]
      simp [knownE]
      omega
    · by_cases e : x.k = 2 <;> simp [e]
theorem divides_len (l : List EvI) : restE true (restE false (pushE [] l)) = [] := by simp [restE]
theorem divides_gone (l : List EvI) : (sqE (toldE false (pushE [] l))).any (fun x => x.k == 2) = false := by
  rw [List.any_eq_false]
  intro x hx
  have := (List.mem_filter.1 (sqE_sub hx)).2
  simpa using this
set_option maxRecDepth 100000 in
theorem other_any (x : EvI) (bk : Nat) (kk : Int) (w : World) (hc : w.cell? ⟨bk, 0, none⟩ = some (.int .i64 kk)) :
    Calls Try.prog 23 #[evV x, .pointer (some ⟨bk, 0, none⟩)] w fun e w' => e = .returned (.bool (x.k != kk)) ∧ Below w.heap.size w w' := by
  have hb : bk < w.heap.size := World.block_lt_of_cell? _ _ hc
  have hc2 : (w.alloc (.cells #[.int .i64 x.k, .int .u32 (x.u : Int), .int .u8 (x.f : Int)] 39)).cell? ⟨bk, 0, none⟩ = some (.int .i64 kk) := (World.cell?_alloc_lt w _ ⟨bk, 0, none⟩ hb).trans hc
  have HB := Lib.hid (below_al w (.cells #[.int .i64 x.k, .int .u32 (x.u : Int), .int .u8 (x.f : Int)] 39))
  unfold evV
  go_enter Try.func23, Try.ntmps23
  go_wp2_with fail
  go_ret
  exact ⟨rfl, HB.out⟩
set_option maxRecDepth 100000 in
theorem gone_any (x : EvI) (w : World) :
    Calls Try.prog 28 #[evV x] w fun e w' => e = .returned (.bool (x.k == 2)) ∧ Below w.heap.size w w' := by
  have HB := Lib.hid (below_al w (.cells #[.int .i64 x.k, .int .u32 (x.u : Int), .int .u8 (x.f : Int)] 39))
  unfold evV
  go_enter Try.func28, Try.ntmps28
  go_wp2_with fail
  go_ret
  exact ⟨rfl, HB.out⟩
/-- DeleteFunc over a row of one's own. -/
theorem delRow_any (B : Nat) (r : EvRow) (bk : Nat) (kk : Int) (hl : r.l.length ≤ 100000) (w : World) (hr : r.own B w) (hB : bk < B) (hc : w.cell? ⟨bk, 0, none⟩ = some (.int .i64 kk)) :
    Calls Try.prog 24 #[.slice r.A r.l.length r.c, .func (.func 23) #[] #[.pointer (some ⟨bk, 0, none⟩)]] w fun e w' => ∃ (A : Option Addr) (c : Nat), e = .returned (.slice A (r.l.filter fun x => !(x.k != kk)).length c) ∧ SlAt encEv 3 w' A (r.l.filter fun x => !(x.k != kk)) ∧ KeptO (fun k => r.in_ k) w w' := by
  obtain ⟨A, c, l⟩ := r
  by_cases h0 : l = []
  · subst h0
    have I := Lib.hid (idxEv_any (F := 23) (cs := #[.pointer (some ⟨bk, 0, none⟩)]) (p := fun x => x.k != kk) (KW := fun _ => True) (A := A) (c := c) (l := []) (w := w) (fun args w => by simp [go_sem]) (by simp) (.inl rfl) trivial (fun _ _ _ _ => trivial) (fun x hx => by cases hx))
    show Calls Try.prog 24 #[.slice A 0 c, .func (.func 23) #[] #[.pointer (some ⟨bk, 0, none⟩)]] w _
    clear hr hc hB hl
    go_enter Try.func24, Try.ntmps24
    go_wp2_with fail
    refine I.out.mono ?_
    rintro e w1 ⟨hb1, x, rfl, hx⟩
    have HB1 := Lib.hid hb1
    obtain rfl : x = -1 := by
      rcases hx with ⟨h, _⟩ | ⟨k, _, hk, _⟩
      · exact h
      · simp at hk
    clear hb1 I hx
    go_wp2_with fail
    go_ret
    exact ⟨A, c, rfl, .inl rfl, KeptO.of_below HB1.out⟩
  · obtain ⟨b, rfl, hb, _, hcap, hRE⟩ := RE.of_own hr rfl h0
    refine (delEv_any (F := 23) (cs := #[.pointer (some ⟨bk, 0, none⟩)]) (p := fun x => x.k != kk) (KW := fun W => W.cell? ⟨bk, 0, none⟩ = some (.int .i64 kk)) (fun args w => by simp [go_sem]) hl hcap hRE hc (fun W W' h k => k.cell (a := ⟨bk, 0, none⟩) (World.block_lt_of_cell? _ _ h) h (by show ¬ bk = b; omega)) (fun x _ W h => other_any x bk kk W h)).mono ?_
    rintro e w' ⟨rfl, h1, h2⟩
    exact ⟨_, c, rfl, h1.slAt, h2.mono fun k e => ⟨_, rfl, e.symm⟩⟩
/-- An argument lies below. -/
theorem arg_low {A : Option Addr} {l : List EvI} {w : World} (hS : SlAt encEv 3 w A l) : l = [] ∨ ∀ a, A = some a → a.block < w.heap.size := by
  rcases hS with h | ⟨b, off, rfl, hb, _⟩
  · exact .inl h
  · exact .inr fun a ha => by cases ha; exact hb
set_option maxRecDepth 100000 in
set_option maxHeartbeats 4000000 in
theorem divides_main (A : Option Addr) (c : Nat) (l : List EvI) (hl : l.length ≤ 100) (hok : ∀ x ∈ l, evOk x) (w : World) (hS : SlAt encEv 3 w A l) :
    Calls Try.prog 5 #[.slice A l.length c] w fun e w' => e = .returned (.bool true) ∧ Below w.heap.size w w' := by
  have h1 : ¬ (100 : Int) < (l.length : Int) := by omega
  have AL := Lib.hid (fun W => alive15_any W)
  have HS := Lib.hid hS
  have HOK := Lib.hid hok
  have N := Lib.hid (qnew_any w)
  have hq0 := Lib.hid (show (pushE [] l).length ≤ 100 by have := pushE_len [] l; simp at this; omega)
  clear hS hok
  go_enter Try.func5, Try.ntmps5
  go_wp2_with fail
  refine N.out.mono ?_
  rintro e w1 ⟨g, S, rfl, t1, s1, hb1⟩
  have Q1 := QX.start rfl t1 s1 hb1
  have P1 := Lib.hid (Q1.push A c l (by omega) (by simp) HOK.out (HS.out.below hb1) ((arg_low HS.out).imp id .inl))
  clear t1 s1 hb1 Q1 N
  go_wp2_with fail
  refine P1.out.mono ?_
  rintro e w2 ⟨rfl, q2⟩
  have F2 := Lib.hid (q2.flush false (by have := hq0.out; omega))
  clear q2 P1
  go_wp2_with fail
  refine F2.out.mono ?_
  rintro e w3 ⟨⟨A1, c1, l1⟩, rfl, e1, q3⟩
  have F3 := Lib.hid (q3.flush true (by have := restE_len false (pushE [] l); have := hq0.out; omega))
  have HL1 := Lib.hid e1
  clear q3 F2 e1
  go_wp2_with fail
  refine F3.out.mono ?_
  rintro e w4 ⟨⟨A2, c2, l2⟩, rfl, e2, q4⟩
  rw [divides_len] at q4
  have Q4 := Lib.hid q4
  have HL2 := Lib.hid e2
  clear q4 F3 e2
  have hl1 : l1.length ≤ 100 := by
    have h1 : l1 = _ := HL1.out
    rw [h1]
    have := sqE_len (toldE false (pushE [] l))
    have := toldE_len false (pushE [] l)
    have := hq0.out
    omega
  have hl2 : l2.length ≤ 100 := by
    have h1 : l2 = _ := HL2.out
    rw [h1]
    have := sqE_len (toldE true (restE false (pushE [] l)))
    have := toldE_len true (restE false (pushE [] l))
    have := restE_len false (pushE [] l)
    have := hq0.out
    omega
  have HEQ := Lib.hid (show ∀ kk : Int, (kk = 1 ∨ kk = 2) → (l1 ++ l2).filter (fun x => !(x.k != kk)) = l.filter (fun x => !(x.k != kk)) from fun kk hk => by
    have e1 : l1 = _ := HL1.out
    have e2 : l2 = _ := HL2.out
    rw [e1, e2]
    exact divides_eq l kk hk)
  have HGN := Lib.hid (show l1.any (fun x => x.k == 2) = false by
    have e1 : l1 = _ := HL1.out
    rw [e1]
    exact divides_gone l)
  have QA := Lib.hid (Q4.out.below (below_al w4 (.cells #[.int .i64 1, .int .i64 2] 3)))
  clear Q4 HL1 HL2 hq0
  have hr := heap_alloc_new w4 (.cells #[.int .i64 1, .int .i64 2] 3)
  have hrz : w4.heap.size < (w4.alloc (.cells #[.int .i64 1, .int .i64 2] 3)).heap.size := by simp
  go_wp2_with fail
  generalize w4.alloc _ = w5 at *
  generalize w4.heap.size = br at *
  have HRo := Lib.hid hr
  clear hr
  go_loopw [26] (fun i wr => ∃ k : Nat, k ≤ 2 ∧ i = .int .i64 k ∧ Hid (Below w5.heap.size w5 wr)) (fun i _ => 2 - (intOf i).toNat)
  case atStart => exact ⟨0, by omega, rfl, Lib.hid (Below.refl _ _)⟩
  case round =>
    obtain ⟨k, hk, rfl, hB⟩ := hrel
    have HX := Lib.hid (QA.out.below hB.out)
    have hk0 : (0 : Int) ≤ (k : Int) := by omega
    by_cases hlt : k < 2
    · have hk1 : (k : Int) < 2 := by omega
      have hkk : ((k : Int) + 1 = 1 ∨ (k : Int) + 1 = 2) := by omega
      have hx : wr.cell? ⟨br, k, none⟩ = some (.int .i64 ((k : Int) + 1)) := by
        have hh := (hB.out.block br hrz).trans HRo.out
        have : k = 0 ∨ k = 1 := by omega
        rcases this with rfl | rfl
        · exact cell_of_row _ _ 0 _ _ _ hh
        · exact cell_of_row _ _ 1 _ _ _ hh
      have hE := HEQ.out ((k : Int) + 1) hkk
      clear hkk HEQ
      generalize (k : Int) + 1 = kk at *
      have HE := Lib.hid hE
      clear hE
      have hbox := heap_alloc_new wr (.cells #[.int .i64 kk] 3)
      have hbz : wr.heap.size < (wr.alloc (.cells #[.int .i64 kk] 3)).heap.size := by simp
      have BA := below_al wr (.cells #[.int .i64 kk] 3)
      have HBA := Lib.hid (below_next hB.out BA)
      have hw6 := HBA.out.size
      have CL := Lib.hid (cloneEv_any A c l (by omega) (wr.alloc (.cells #[.int .i64 kk] 3)) (HS.out.below (HX.out.below BA).be))
      have HBX := Lib.hid hbox
      clear hbox BA
      go_wp2_with fail
      generalize wr.alloc _ = w6 at *
      generalize wr.heap.size = bk at *
      refine CL.out.mono ?_
      rintro e w7 ⟨v, rfl, h7, hb7⟩
      obtain ⟨A3, c3, rfl⟩ := own_any h7
      have HB7 := Lib.hid (below_next HBA.out hb7)
      have hbox7 := (hb7.block bk hbz).trans HBX.out
      have D1 := Lib.hid (delRow_any w6.heap.size ⟨A3, c3, l⟩ bk kk (by show l.length ≤ 100000; omega) w7 h7 hbz (cell_of_row _ _ 0 _ _ _ hbox7))
      have hz7 := hb7.size
      have H7 := Lib.hid (show (EvRow.mk A3 c3 l).own w6.heap.size w7 from h7)
      have HBX7 := Lib.hid hbox7
      clear h7 hb7 hbox7 CL HBA HBX
      simp only at D1
      go_wp2_with fail
      refine D1.out.mono ?_
      rintro e w8 ⟨A4, c4, rfl, h8, k8⟩
      have hb8 : Below w6.heap.size w7 w8 := k8.below (fun k hk => (H7.out.lt hk).1) hz7
      have HB8 := Lib.hid (HB7.out.trans (hb8.mono hw6))
      have hbox8 := (hb8.block bk hbz).trans HBX7.out
      have HBX8 := Lib.hid hbox8
      have H8 := Lib.hid h8
      clear h8 k8 hb8 hbox8 D1 HB7 H7 HBX7
      have Q8 := Lib.hid (QA.out.below HB8.out)
      have HB9 := Lib.hid (below_next HB8.out (below_al w8 (.cells #[.slice A1 l1.length c1, .slice A2 l2.length c2] 28)))
      have hn9 := heap_alloc_new w8 (.cells #[.slice A1 l1.length c1, .slice A2 l2.length c2] 28)
      have CC := Lib.hid (concatEv_any w8.heap.size A1 A2 c1 c2 l1 l2 (by omega) (by omega) (w8.alloc (.cells #[.slice A1 l1.length c1, .slice A2 l2.length c2] 28)) (cell_of_row _ _ 0 _ _ _ hn9) (cell_of_row _ _ 1 _ _ _ hn9) (by simp) ((Q8.out.below (below_al w8 _)).rw ⟨A1, c1, l1⟩ (by simp)).sl ((Q8.out.below (below_al w8 _)).rw ⟨A2, c2, l2⟩ (by simp)).sl)
      have H9 := Lib.hid (H8.out.below (below_al w8 (.cells #[.slice A1 l1.length c1, .slice A2 l2.length c2] 28)))
      have hbk8 : bk < w8.heap.size := (Array.getElem?_eq_some_iff.1 HBX8.out).1
      have hbox9 := (below_al w8 (.cells #[.slice A1 l1.length c1, .slice A2 l2.length c2] 28)).block bk hbk8 |>.trans HBX8.out
      have HBX9 := Lib.hid hbox9
      have hbk9 : bk < (w8.alloc (.cells #[.slice A1 l1.length c1, .slice A2 l2.length c2] 28)).heap.size := by simp; omega
      clear hn9 hbox9 H8 HBX8
      go_wp2_with fail
      generalize w8.alloc _ = w9 at *
      refine CC.out.mono ?_
      rintro e wa ⟨A5, c5, rfl, ha, hba⟩
      have hboxa := (hba.block bk hbk9).trans HBX9.out
      have D2 := Lib.hid (delRow_any w9.heap.size ⟨A5, c5, l1 ++ l2⟩ bk kk (by show (l1 ++ l2).length ≤ 100000; rw [List.length_append]; omega) wa ha hbk9 (cell_of_row _ _ 0 _ _ _ hboxa))
      simp only at D2
      rw [HE.out] at D2
      have hza := hba.size
      have Ha := Lib.hid (show (EvRow.mk A5 c5 (l1 ++ l2)).own w9.heap.size wa from ha)
      have HBa := Lib.hid (below_next HB9.out hba)
      have H9a := Lib.hid (H9.out.below hba)
      have hS4 := H9.out
      clear ha hba hboxa CC HE HB8 Q8
      generalize hll : (l1 ++ l2).length = ll at *
      clear hll
      go_wp2_with fail
      refine D2.out.mono ?_
      rintro e wb ⟨A6, c6, rfl, hbS, kb⟩
      have hw9 : w5.heap.size ≤ w9.heap.size := by
        have := HB9.out.size
        omega
      have hbb : Below w9.heap.size wa wb := kb.below (fun k hk => (Ha.out.lt hk).1) hza
      have HBb := Lib.hid (HBa.out.trans (hbb.mono hw9))
      have H4b : SlAt encEv 3 wb A4 (l.filter fun x => !(x.k != kk)) := by
        rcases hS4 with h | ⟨b, off, hA, hlt, _⟩
        · exact .inl h
        · exact H9a.out.keptO (fun a ha e => by
            rw [hA] at ha
            cases ha
            have := (Ha.out.lt e).1
            simp only at this
            omega) kb
      have hfl := List.length_filter_le (fun x : EvI => !(x.k != kk)) l
      have EQ := equalEv_any A6 A4 c6 c4 (l.filter fun x => !(x.k != kk)) (l.filter fun x => !(x.k != kk)) (by omega) (by omega) wb hbS H4b
      rw [decide_eq_true rfl] at EQ
      have EQ := Lib.hid EQ
      clear hbS kb hbb H4b D2 HBa Ha H9a H9 hS4 HB9 HBX9 hfl
      generalize (l.filter fun x => !(x.k != kk)).length = fl at *
      go_wp2_with fail
      refine EQ.out.mono ?_
      rintro e wc ⟨rfl, hbc⟩
      have HBc := Lib.hid (below_next HBb.out hbc)
      clear hbc EQ HBb
      go_wp2_with fail
      go_roundw
      case rel => exact ⟨k + 1, by omega, by go_num, HBc⟩
      case measure => simp [intOf]; omega
    · obtain rfl : k = 2 := by omega
      clear HEQ QA HRo
      go_wp2_with fail
      refine (AL.out _).mono ?_
      rintro e w6 ⟨rfl, hb6⟩
      have C6 := Lib.hid ((HX.out.below hb6).len (by simp))
      clear hb6 AL HX
      go_wp2_with fail
      refine C6.out.mono ?_
      rintro e w7 ⟨rfl, q7⟩
      have CF := contEv_any (F := 28) (cs := #[]) (p := fun x => x.k == 2) (KW := fun _ => True) (A := A1) (c := c1) (l := l1) (w := w7) (fun args w => by simp [go_sem]) (by omega) (q7.rw ⟨A1, c1, l1⟩ (by simp)).sl trivial (fun _ _ _ _ => trivial) (fun x _ W _ => gone_any x W)
      rw [HGN.out] at CF
      have CF := Lib.hid CF
      have Q7 := Lib.hid q7
      clear q7 C6
      go_wp2_with fail
      refine CF.out.mono ?_
      rintro e w8 ⟨rfl, hb8⟩
      have HF := Lib.hid (Q7.out.below hb8).be
      clear hb8 CF Q7
      go_wp2_with fail
      go_ret
      exact ⟨rfl, HF.out⟩
theorem eventDivides_law (A : Option Addr) (c : Nat) (l : List EvI) (hlm : l.length ≤ maxLen) (hok : ∀ x ∈ l, evOk x) (w : World) (hS : SlAt encEv 3 w A l) :
    Calls Try.prog 5 #[.slice A l.length c] w fun e w' => e = .returned (.bool true) ∧ Below w.heap.size w w' := by
  unfold maxLen at hlm
  by_cases h1 : l.length ≤ 100
  · exact divides_main A c l h1 hok w hS
  · have h1i : (100 : Int) < (l.length : Int) := by omega
    have AL := Lib.hid (fun W => alive15_any W)
    clear h1 hS hok
    generalize l.length = n1 at *
    go_enter Try.func5, Try.ntmps5
    go_wp2_with fail
    refine (AL.out _).mono ?_
    rintro e w1 ⟨rfl, hb⟩
    go_wp2_with fail
    go_ret
    exact ⟨rfl, hb⟩
end Go.Proofs.Ytfmloifgngembaa
