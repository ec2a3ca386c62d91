/- A view: Apply. -/
import Derived.Test.YtefodmbaknedkaaVm
import Derived.Laws.EntriesVeiled
import Derived.Test.YtefodmbaknedkaaVd
namespace Go.Proofs.Ytefodmbaknedkaa
open Go.RowKit

theorem hd_cells {W : World} {h : Nat} {p : Option Addr} (hb : W.heap[h]? = some (.cells #[.nilFunc, .func (.func 28) #[.pointer p] #[], .func (.func 29) #[.pointer p] #[], .func (.func 30) #[.pointer p] #[]] 65 (0, 0))) :
    W.cell? ⟨h, 1, none⟩ = some (.func (.func 28) #[.pointer p] #[]) ∧ W.cell? ⟨h, 2, none⟩ = some (.func (.func 29) #[.pointer p] #[]) ∧ W.cell? ⟨h, 3, none⟩ = some (.func (.func 30) #[.pointer p] #[]) :=
  ⟨cell_of_row W h 1 _ _ _ hb, cell_of_row W h 2 _ _ _ hb, cell_of_row W h 3 _ _ _ hb⟩
section
variable {g : Nat} {S : Nat → Prop} {v : List Nat} {w : World}
set_option maxRecDepth 100000 in
set_option maxHeartbeats 8000000 in
theorem vapply_any (A : Option Addr) (c : Nat) (l : List EvI) (hl : l.length ≤ 10000) (hv : v.length ≤ 50000) (hok : ∀ e ∈ l, evOk e) (hS : SlAt encEv 3 w A l) (hO : l = [] ∨ Out S A) (hc : l.length ≤ c) (h : VT g v S w) :
    Calls Try.prog 14 #[.pointer (some ⟨g, 0, none⟩), .slice A l.length c] w fun e w' => ∃ (S' : Nat → Prop) (A' : Option Addr) (c' : Nat), e = .returned (.slice A' (apV v false l).2.length c') ∧ w'.ownsRow w.heap.size 47 10 (.slice A' (apV v false l).2.length c') (apV v false l).2.length (flatL enc0 (apV v false l).2) ∧ (∀ a, A' = some a → ¬ S' a.block) ∧
      VT g (apV v false l).1 S' w' ∧ MoreQ S S' w ∧ KeptO S w w' := by
  have hB : Below w.heap.size w ((w.alloc (.cells #[.nilFunc, .func (.func 28) #[.pointer (some ⟨g, 0, none⟩)] #[], .func (.func 29) #[.pointer (some ⟨g, 0, none⟩)] #[], .func (.func 30) #[.pointer (some ⟨g, 0, none⟩)] #[]] 65)).alloc (.cells #[.slice none 0 0] 29)) := below_next (below_al w _) (below_al _ _)
  have hx := heap_alloc_new (w.alloc (.cells #[.nilFunc, .func (.func 28) #[.pointer (some ⟨g, 0, none⟩)] #[], .func (.func 29) #[.pointer (some ⟨g, 0, none⟩)] #[], .func (.func 30) #[.pointer (some ⟨g, 0, none⟩)] #[]] 65)) (.cells #[.slice none 0 0] 29)
  rw [World.size_alloc] at hx
  have hlt := (VT.objK g v).lt _ _ h
  have I0 : Hid (ApI w S w.heap.size (w.heap.size + 1) (.cells #[.nilFunc, .func (.func 28) #[.pointer (some ⟨g, 0, none⟩)] #[], .func (.func 29) #[.pointer (some ⟨g, 0, none⟩)] #[], .func (.func 30) #[.pointer (some ⟨g, 0, none⟩)] #[]] 65 (0, 0)) g v l l A c v none 0 [] ((w.alloc (.cells #[.nilFunc, .func (.func 28) #[.pointer (some ⟨g, 0, none⟩)] #[], .func (.func 29) #[.pointer (some ⟨g, 0, none⟩)] #[], .func (.func 30) #[.pointer (some ⟨g, 0, none⟩)] #[]] 65)).alloc (.cells #[.slice none 0 0] 29))) := Lib.hid
    ⟨⟨⟨S, (VT.objK g v).kept _ _ _ _ h (KeptO.of_below (S := fun _ => False) hB) (fun _ _ => id), fun k hk => .inl hk, fun e => by have := hlt _ e; omega, fun e => by have := hlt _ e; omega, fun a ha => by cases ha⟩, KeptO.of_below hB, ((below_al (w.alloc _) _).block w.heap.size (by simp)).trans (heap_alloc_new w _), hx, World.ownsRow_nil _ _ _ _, Nat.le_refl _, Nat.le_succ _, by omega, fun a ha => by cases ha⟩, hS, hO, hc, hok, Nat.le_refl _, by simp, rfl, rfl⟩
  have SA := sliceAtV
  clear hS hO hok hc h hB hx hlt
  go_enter Try.func14, Try.ntmps14
  go_wp2_with fail
  go_loopw [1] (fun s1 wr => ∃ (m : List EvI) (A2 : Option Addr) (c2 : Nat) (V : List Nat) (Ao : Option Addr) (co : Nat) (O : List RI), s1 = .slice A2 m.length c2 ∧ Hid (ApI w S w.heap.size (w.heap.size + 1) (.cells #[.nilFunc, .func (.func 28) #[.pointer (some ⟨g, 0, none⟩)] #[], .func (.func 29) #[.pointer (some ⟨g, 0, none⟩)] #[], .func (.func 30) #[.pointer (some ⟨g, 0, none⟩)] #[]] 65 (0, 0)) g v l m A2 c2 V Ao co O wr)) (fun s1 _ => slLen s1)
  case atStart => exact ⟨l, A, c, v, none, 0, [], rfl, I0⟩
  case round =>
    obtain ⟨m, A2, c2, V, Ao, co, O, rfl, I1⟩ := hrel
    clear I0
    rcases m with _ | ⟨e, m⟩
    · obtain ⟨hbx, hfz⟩ := I1.out.ap.box
      have E1 : Hid ((apV v false l).1 = V) := Lib.hid I1.out.e1.symm
      have E2 : Hid ((apV v false l).2 = O) := Lib.hid (I1.out.e2.symm.trans (List.append_nil O))
      have P := Lib.hid I1.out.ap
      clear I1
      simp only [List.length_nil] at *
      go_wp2_with fail
      go_ret
      rw [E1.out, E2.out]
      obtain ⟨S', t, n0, _, _, n3⟩ := P.out.view
      exact ⟨S', Ao, co, rfl, P.out.row, n3, t, n0, P.out.kept⟩
    · have hq : (0 : Int) < ((m.length + 1 : Nat) : Int) := by omega
      have hO : O.length ≤ 50000 := by have := I1.out.ol; omega
      have hV : V.length + (e :: m).length ≤ 60000 := by have := I1.out.len; omega
      have hV1 : V.length ≤ 100000 := by omega
      have ho := I1.out.out.resolve_left (by simp)
      obtain ⟨c1, c2', c3'⟩ := hd_cells I1.out.ap.hb
      have MM : Hid (∀ V, (arrV V (e :: m)).2.length ≤ (e :: m).length) := Lib.hid fun V => (arr_mono (e :: m) V).2.2.2
      have AR := Lib.hid (arrived_any (e :: m) A2 c2 hO hV I1.out.ok I1.out.sl (.inr ho) I1.out.cap I1.out.ap)
      have GO := Lib.hid (gone_any e m A2 c2 hO hV1 I1.out.sl ho I1.out.ap)
      have CH := Lib.hid (changed_any e m A2 c2 hO hV1 I1.out.sl ho I1.out.ap)
      obtain ⟨eb, eo, rfl, _, e0, e1, e2⟩ := (I1.out.ap.evs I1.out.sl ho).ev (j := 0) (by simp)
      simp only [List.getElem_cons_zero, Nat.zero_mul, Nat.add_zero] at e0 e1 e2
      have SL := sliceV_1 (some ⟨eb, eo, none⟩) m.length c2
      clear e1 e2 ho hO hV hV1
      by_cases h1 : e.k = 1
      · have HN := Lib.hid (fun A2 c2 A3 c3 W' hs ho hc p => I1.out.arr (A2 := A2) (c2 := c2) (A3 := A3) (c3 := c3) (W' := W') h1 hs ho hc p)
        have LS := Lib.hid (arr_less (v := V) (l := m) h1)
        rw [h1] at e0
        simp only [List.length_cons] at *
        clear h1 GO CH I1 c2' c3' SL
        generalize arrV V (e :: m) = q at *
        go_wp2_with fail
        refine AR.out.mono ?_
        rintro e' w2 ⟨A4, c4, rfl, hs, ho, hc, A3, c3, p⟩
        have H2 := Lib.hid (HN.out _ _ _ _ _ hs ho hc p)
        clear hs ho hc p AR HN
        go_wp2_with fail
        go_roundw
        case rel => exact ⟨_, _, _, _, _, _, _, rfl, H2⟩
        case measure => have := LS.out; simp [slLen]; omega
      · by_cases h2 : e.k = 2
        · have HN := Lib.hid (fun A3 c3 W' p => I1.out.gone (A3 := A3) (c3 := c3) (W' := W') h2 p)
          rw [h2] at e0
          simp only [List.length_cons] at *
          clear h1 h2 AR CH I1 c1 c3' SL MM
          generalize (if e.u ∈ V then [rN 3 (posL V e.u)] else ([] : List RI)) = R at *
          generalize remL V e.u = V2 at *
          go_wp2_with fail
          refine GO.out.mono ?_
          rintro e' w2 ⟨rfl, A3, c3, p⟩
          have H2 := Lib.hid (HN.out _ _ _ p)
          clear p GO HN
          go_wp2_with fail
          go_roundw
          case rel => exact ⟨_, _, _, _, _, _, _, rfl, H2⟩
          case measure => simp [slLen]
        · by_cases h3 : e.k = 3
          · have HN := Lib.hid (fun A3 c3 W' p => I1.out.chg (A3 := A3) (c3 := c3) (W' := W') h3 p)
            rw [h3] at e0
            simp only [List.length_cons] at *
            clear h1 h2 h3 AR GO I1 c1 c2' SL MM
            generalize (if e.u ∈ V then [rF (posL V e.u) e.f] else ([] : List RI)) = R at *
            go_wp2_with fail
            refine CH.out.mono ?_
            rintro e' w2 ⟨rfl, A3, c3, p⟩
            have H2 := Lib.hid (HN.out _ _ _ p)
            clear p CH HN
            go_wp2_with fail
            go_roundw
            case rel => exact ⟨_, _, _, _, _, _, _, rfl, H2⟩
            case measure => simp [slLen]
          · have HN := Lib.hid (I1.out.skip h1 h2 h3)
            simp only [List.length_cons] at *
            clear AR GO CH I1 c1 c2' c3' MM
            by_cases h4 : e.k < 1
            · clear h1 h2 h3
              go_wp2_with fail
              go_roundw
              case rel => exact ⟨_, _, _, _, _, _, _, rfl, HN⟩
              case measure => simp [slLen]
            · have h5 : 3 < e.k := by omega
              clear h1 h2 h3
              go_wp2_with fail
              go_roundw
              case rel => exact ⟨_, _, _, _, _, _, _, rfl, HN⟩
              case measure => simp [slLen]
end
end Go.Proofs.Ytefodmbaknedkaa

namespace Go.Proofs.Ytefodmbaknedkaa
open Go.RowKit

section
variable {w W : World} {m l : List EvI} {e : EvI} {A : Option Addr} {c : Nat}
theorem cutN (hs : SlAt encEv 3 w A (e :: m)) (hc : (e :: m).length ≤ c) : SlAt encEv 3 w (offG 3 A c 1) m ∧ m.length ≤ c - 1 := by
  refine ⟨by simpa using hs.cutDrop (lo := 1) hc, ?_⟩
  simp at hc
  omega
set_option maxRecDepth 100000 in
set_option maxHeartbeats 4000000 in
theorem gone_nil (F : Value) (e : EvI) (n : Nat) (l : List EvI) (hn : l.length = n) (hS : SlAt encEv 3 w A (e :: l)) :
    Calls Try.prog 29 #[.pointer none, .slice A (n + 1) c, F] w fun x W' => x = .returned (.slice (offG 3 A c 1) n (c - 1)) ∧ Below w.heap.size w W' := by
  have KN := Lib.hid known_nil
  have RM := Lib.hid (fun W => ixremove_nil e.u W)
  have HB0 := Lib.hid (fun (W : World) (hb : Below w.heap.size w W) W' (hb2 : Below W.heap.size W W') => below_next hb hb2)
  obtain ⟨eb, eo, rfl, _, e0, e1, e2⟩ := hS.ev (j := 0) (by simp)
  simp only [List.getElem_cons_zero, Nat.zero_mul, Nat.add_zero] at e0 e1 e2
  have SL := sliceV_1 (some ⟨eb, eo, none⟩) n c
  have SA := sliceAtV
  have hq : (0 : Int) < ((n + 1 : Nat) : Int) := by omega
  clear hS e0 e2 hn
  generalize e.u = u at *
  go_enter Try.func29, Try.ntmps29
  go_upto_region 1 with (fail)
  go_region_with (first
    | (go_at_call 32; refine (KN.out _).mono ?_; rintro e' w1 ⟨rfl, rfl⟩)
    | (go_at_call 41; refine (RM.out _).mono ?_; rintro e' w1 ⟨rfl, hb⟩; have hb2 := Lib.hid (HB0.out _ (by repeat (first | assumption | exact Below.refl _ _ | refine belowDrawN ?_ _ | refine belowDraw ?_ | refine belowAlloc ?_ _)) _ hb); clear hb))
  all_goals
    clear KN RM e1 HB0
    go_wp2_with fail
    go_ret
    exact ⟨rfl, hb2.out⟩
set_option maxRecDepth 100000 in
set_option maxHeartbeats 4000000 in
theorem changed_nil (F : Value) (e : EvI) (n : Nat) (l : List EvI) (hn : l.length = n) (hS : SlAt encEv 3 w A (e :: l)) :
    Calls Try.prog 30 #[.pointer none, .slice A (n + 1) c, F] w fun x W' => x = .returned (.slice (offG 3 A c 1) n (c - 1)) ∧ Below w.heap.size w W' := by
  have SQ := Lib.hid (fun W => vseq_nil e.u W)
  obtain ⟨eb, eo, rfl, _, e0, e1, e2⟩ := hS.ev (j := 0) (by simp)
  simp only [List.getElem_cons_zero, Nat.zero_mul, Nat.add_zero] at e0 e1 e2
  have SL := sliceV_1 (some ⟨eb, eo, none⟩) n c
  have SA := sliceAtV
  have hq : (0 : Int) < ((n + 1 : Nat) : Int) := by omega
  clear hS e0 e2 hn
  generalize e.u = u at *
  go_enter Try.func30, Try.ntmps30
  go_wp2_with fail
  refine (SQ.out _).mono ?_
  rintro e' w1 ⟨rfl, hb⟩
  have HB := Lib.hid hb
  clear hb
  go_wp2_with fail
  go_ret
  exact ⟨rfl, HB.out⟩
/-- Where the walk over the events Arrived stands. -/
structure ArN (w : World) (l m : List EvI) (A : Option Addr) (c : Nat) (W : World) : Prop where
  be : Below w.heap.size w W
  sl : SlAt encEv 3 W A m
  cap : m.length ≤ c
  fst : m = l ∨ m.length < l.length
  le : m.length ≤ l.length
theorem ArN.evs (i : ArN w l m A c W) : SlAt encEv 3 W A m := i.sl
theorem ArN.later {m2 : List EvI} {A2 : Option Addr} {c2 : Nat} {W' : World} (i : ArN w l (e :: m) A c W) (hb : Below W.heap.size W W') (h1 : m2.length ≤ m.length) (h2 : SlAt encEv 3 W' A2 m2) (h3 : m2.length ≤ c2) : ArN w l m2 A2 c2 W' := by
  have := i.le
  rw [List.length_cons] at this
  exact ⟨below_next i.be hb, h2, h3, .inr (by omega), by omega⟩
theorem ArN.next {W' : World} (i : ArN w l (e :: m) A c W) (hb : Below W.heap.size W W') : ArN w l m (offG 3 A c 1) (c - 1) W' := by
  obtain ⟨h1, h2⟩ := cutN i.sl i.cap
  have := i.le
  rw [List.length_cons] at this
  exact ⟨below_next i.be hb, h1.below hb, h2, .inr (by omega), by omega⟩
set_option maxRecDepth 100000 in
set_option maxHeartbeats 4000000 in
theorem arrived_nil (F : Value) (e : EvI) (l : List EvI) (hk : e.k = 1) (hl : l.length ≤ 60000) (hS : SlAt encEv 3 w A (e :: l)) (hc : (e :: l).length ≤ c) :
    Calls Try.prog 28 #[.pointer none, .slice A (l.length + 1) c, F] w fun x W' => ∃ (m : List EvI) (A2 : Option Addr) (c2 : Nat), x = .returned (.slice A2 m.length c2) ∧ m.length ≤ l.length ∧ SlAt encEv 3 W' A2 m ∧ m.length ≤ c2 ∧ Below w.heap.size w W' := by
  have KN := Lib.hid known_nil
  have LN := Lib.hid vlen_nil0
  have AP := Lib.hid ixappend_nil
  have I0 : Hid (ArN w (e :: l) (e :: l) A c w) := Lib.hid ⟨Below.refl _ _, hS, hc, .inl rfl, Nat.le_refl _⟩
  have SA := sliceAtV
  clear hS hc
  go_enter Try.func28, Try.ntmps28
  go_wp2_with fail
  refine (LN.out _).mono ?_
  rintro e' w1 ⟨rfl, rfl⟩
  go_wp2_with fail
  go_loopw [1] (fun s1 wr => ∃ (m : List EvI) (A2 : Option Addr) (c2 : Nat), s1 = .slice A2 m.length c2 ∧ Hid (ArN w (e :: l) m A2 c2 wr)) (fun s1 _ => slLen s1)
  case atStart => exact ⟨e :: l, A, c, rfl, I0⟩
  case round =>
    obtain ⟨m, A2, c2, rfl, I1⟩ := hrel
    clear I0
    rcases m with _ | ⟨x, m⟩
    · simp only [List.length_nil] at *
      go_wp2_with fail
      refine (LN.out _).mono ?_
      rintro e' w1 ⟨rfl, rfl⟩
      go_wp2_with fail
      go_ret
      exact ⟨[], A2, c2, rfl, Nat.zero_le _, .inl rfl, Nat.zero_le _, I1.out.be⟩
    · obtain ⟨eb, eo, rfl, _, e0, e1, e2⟩ := I1.out.evs.ev (j := 0) (by simp)
      simp only [List.getElem_cons_zero, Nat.zero_mul, Nat.add_zero] at e0 e1 e2
      have hq : (0 : Int) < ((m.length + 1 : Nat) : Int) := by omega
      by_cases h1 : x.k = 1
      · have HN := Lib.hid (fun W' hb => I1.out.next (W' := W') hb)
        have hml : m.length ≤ 60000 := by have := I1.out.le; simp only [List.length_cons] at this; omega
        have SL := sliceV_1 (some ⟨eb, eo, none⟩) m.length c2
        rw [h1] at e0
        simp only [List.length_cons] at *
        clear hk h1 e2 I1 LN
        generalize x.u = u at *
        go_upto_region 3 with (fail)
        go_region_with (first
          | (go_at_call 32; refine (KN.out _).mono ?_; rintro e' w1 ⟨rfl, rfl⟩)
          | (go_at_call 39; refine (AP.out _ _).mono ?_; rintro e' w1 ⟨rfl, rfl⟩))
        all_goals
          clear KN AP e0 e1
          go_wp2_with fail
          go_roundw
          case rel => exact ⟨m, _, _, rfl, Lib.hid (HN.out _ (by repeat (first | exact Below.refl _ _ | refine belowDrawN ?_ _ | refine belowDraw ?_ | refine belowAlloc ?_ _)))⟩
          case measure => simp [slLen]
      · have n1 : (x.k == 1) = false := beq_eq_false_iff_ne.2 h1
        have HL : Hid (m.length + 1 ≤ l.length) := Lib.hid (by
          rcases I1.out.fst with h | h
          · injection h with h _
            rw [h] at h1
            exact absurd hk h1
          · simp only [List.length_cons] at h
            omega)
        have HE := Lib.hid (show SlAt encEv 3 wr (some ⟨eb, eo, none⟩) (x :: m) ∧ (x :: m).length ≤ c2 ∧ Below w.heap.size w wr from ⟨I1.out.sl, I1.out.cap, I1.out.be⟩)
        clear I1 hk h1 e1 e2 KN AP
        simp only [List.length_cons] at *
        go_wp2_with fail
        refine (LN.out _).mono ?_
        rintro e' w1 ⟨rfl, rfl⟩
        go_wp2_with fail
        go_ret
        exact ⟨x :: m, some ⟨eb, eo, none⟩, c2, rfl, HL.out, HE.out.1, HE.out.2.1, HE.out.2.2⟩
set_option maxRecDepth 100000 in
set_option maxHeartbeats 8000000 in
theorem vapply_nil (A : Option Addr) (c : Nat) (l : List EvI) (hl : l.length ≤ 10000) (hc : l.length ≤ c) (w : World) (hS : SlAt encEv 3 w A l) : Calls Try.prog 14 #[.pointer none, .slice A l.length c] w fun e w' => ∃ A c, e = .returned (.slice A 0 c) ∧ Below w.heap.size w w' := by
  obtain ⟨w0, hw0⟩ : ∃ w0, w0 = (w.alloc (.cells #[.nilFunc, .func (.func 28) #[.pointer none] #[], .func (.func 29) #[.pointer none] #[], .func (.func 30) #[.pointer none] #[]] 65)).alloc (.cells #[.slice none 0 0] 29) := ⟨_, rfl⟩
  have hB : Below w.heap.size w w0 := by rw [hw0]; exact below_next (below_al w _) (below_al _ _)
  have hx : w0.heap[w.heap.size + 1]? = some (.cells #[.slice none 0 0] 29 (0, 0)) := by
    have := heap_alloc_new (w.alloc (.cells #[.nilFunc, .func (.func 28) #[.pointer none] #[], .func (.func 29) #[.pointer none] #[], .func (.func 30) #[.pointer none] #[]] 65)) (.cells #[.slice none 0 0] 29)
    rw [World.size_alloc] at this
    rw [hw0]; exact this
  have hh : w0.heap[w.heap.size]? = some (.cells #[.nilFunc, .func (.func 28) #[.pointer none] #[], .func (.func 29) #[.pointer none] #[], .func (.func 30) #[.pointer none] #[]] 65 (0, 0)) := by
    rw [hw0]; exact ((below_al (w.alloc _) _).block w.heap.size (by simp)).trans (heap_alloc_new w _)
  have hs0 : w0.heap.size = w.heap.size + 2 := by rw [hw0]; simp
  have HX := Lib.hid hx
  have HH := Lib.hid hh
  have HS0 := Lib.hid hs0
  have HB := Lib.hid hB
  have I0 : Hid (ArN w0 l l A c w0) := Lib.hid ⟨Below.refl _ _, hS.below hB, hc, .inl rfl, Nat.le_refl _⟩
  have SA := sliceAtV
  clear hS hc hB hx hh hs0
  go_enter Try.func14, Try.ntmps14
  go_wp2_with fail
  rw [← hw0]
  clear hw0
  go_loopw [1] (fun s1 wr => ∃ (m : List EvI) (A2 : Option Addr) (c2 : Nat), s1 = .slice A2 m.length c2 ∧ Hid (ArN w0 l m A2 c2 wr)) (fun s1 _ => slLen s1)
  case atStart => exact ⟨l, A, c, rfl, I0⟩
  case round =>
    obtain ⟨m, A2, c2, rfl, I1⟩ := hrel
    clear I0
    have hbx := cell_of_row wr (w.heap.size + 1) 0 _ _ _ ((I1.out.be.block _ (by have := HS0.out; omega)).trans HX.out)
    obtain ⟨c1, c2', c3'⟩ := hd_cells ((I1.out.be.block w.heap.size (by have := HS0.out; omega)).trans HH.out)
    rcases m with _ | ⟨e, m⟩
    · simp only [List.length_nil] at *
      have HE := Lib.hid (HB.out.trans (I1.out.be.mono HB.out.size))
      clear I1 c1 c2' c3'
      go_wp2_with fail
      go_ret
      exact ⟨none, 0, rfl, HE.out⟩
    · have hq : (0 : Int) < ((m.length + 1 : Nat) : Int) := by omega
      have hml : m.length ≤ 60000 := by have := I1.out.le; simp only [List.length_cons] at this; omega
      obtain ⟨eb, eo, rfl, _, e0, e1, e2⟩ := I1.out.evs.ev (j := 0) (by simp)
      simp only [List.getElem_cons_zero, Nat.zero_mul, Nat.add_zero] at e0 e1 e2
      have AR := Lib.hid (fun F h => arrived_nil F e m h hml I1.out.evs I1.out.cap)
      have GO := Lib.hid (fun F => gone_nil (c := c2) F e m.length m rfl I1.out.evs)
      have CH := Lib.hid (fun F => changed_nil (c := c2) F e m.length m rfl I1.out.evs)
      have SL := sliceV_1 (some ⟨eb, eo, none⟩) m.length c2
      have HN := Lib.hid (fun W' hb => I1.out.next (W' := W') hb)
      have HI := Lib.hid (Below.refl wr.heap.size wr)
      clear e1 e2
      by_cases h1 : e.k = 1
      · have AR := Lib.hid (fun F => AR.out F h1)
        rw [h1] at e0
        simp only [List.length_cons] at *
        clear h1 GO CH c2' c3' SL
        go_wp2_with fail
        refine (AR.out _).mono ?_
        rintro e' w2 ⟨m2, A4, c4, rfl, hle, hs, hcp, hb⟩
        have H2 := Lib.hid (I1.out.later hb hle hs hcp)
        have LE := Lib.hid hle
        clear hs hcp hb AR HN hle I1
        go_wp2_with fail
        go_roundw
        case rel => exact ⟨m2, _, _, rfl, H2⟩
        case measure => have := LE.out; simp [slLen]; omega
      · by_cases h2 : e.k = 2
        · rw [h2] at e0
          simp only [List.length_cons] at *
          clear h1 h2 AR CH c1 c3' SL
          go_wp2_with fail
          refine (GO.out _).mono ?_
          rintro e' w2 ⟨rfl, hb⟩
          have H2 := Lib.hid (HN.out _ hb)
          clear hb GO HN I1
          go_wp2_with fail
          go_roundw
          case rel => exact ⟨m, _, _, rfl, H2⟩
          case measure => simp [slLen]
        · by_cases h3 : e.k = 3
          · rw [h3] at e0
            simp only [List.length_cons] at *
            clear h1 h2 h3 AR GO c1 c2' SL
            go_wp2_with fail
            refine (CH.out _).mono ?_
            rintro e' w2 ⟨rfl, hb⟩
            have H2 := Lib.hid (HN.out _ hb)
            clear hb CH HN I1
            go_wp2_with fail
            go_roundw
            case rel => exact ⟨m, _, _, rfl, H2⟩
            case measure => simp [slLen]
          · have H2 := Lib.hid (HN.out _ HI.out)
            simp only [List.length_cons] at *
            clear AR GO CH I1 c1 c2' c3' HN
            by_cases h4 : e.k < 1
            · clear h1 h2 h3
              go_wp2_with fail
              go_roundw
              case rel => exact ⟨m, _, _, rfl, H2⟩
              case measure => simp [slLen]
            · have h5 : 3 < e.k := by omega
              clear h1 h2 h3
              go_wp2_with fail
              go_roundw
              case rel => exact ⟨m, _, _, rfl, H2⟩
              case measure => simp [slLen]
end
end Go.Proofs.Ytefodmbaknedkaa


