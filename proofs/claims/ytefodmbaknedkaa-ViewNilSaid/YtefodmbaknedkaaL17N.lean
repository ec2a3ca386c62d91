/- The law ViewNil. -/
import Derived.Test.YtefodmbaknedkaaL17Y
import Derived.Lib.SmallJoins
namespace Go.Proofs.Ytefodmbaknedkaa
open Go.RowKit

section
variable {B g : Nat} {v : List Nat} {items : List Item} {w0 W W' : World}
theorem own_setU {b n c k : Nat} {d : List Nat} (h : W.ownsRow B 35 1 (.slice (some ⟨b, 0, none⟩) n c) n (flatL encU d)) (x : Nat) :
    (W.setCell ⟨b, k, none⟩ (.int .u32 (x : Int))).ownsRow B 35 1 (.slice (some ⟨b, 0, none⟩) n c) n (flatL encU (d.set k x)) := by
  have e : flatL encU (d.set k x) = (flatL encU d).set k (.int .u32 (x : Int)) := by rw [flatU_map, flatU_map, List.map_set]
  rw [e]
  rcases h.2 with ⟨h1, _⟩ | ⟨g, cap, cur, h1, h2, h3, h4, h5, h6, h7⟩
  · cases h1
  · injection h1 with e1 e2 e3
    injection e1 with e1
    injection e1 with e1
    subst e1
    refine ⟨by rw [List.length_set]; exact h.1, .inr ⟨b, cap, _, by rw [e3], h2, Joins.block_setCell h3 _, h4, h5, by simpa using h6, ?_⟩⟩
    rw [← h7]
    simp [List.take_set]
/-- A number of the law's own row is written. -/
theorem OX.vbump {A : Option Addr} {c k : Nat} {d : List Nat} (h : OX B (VT g v) [u32I B A c d] w0 W) (hk : k < d.length) (x : Nat) :
    ∃ b, A = some ⟨b, 0, none⟩ ∧ W.cell? ⟨b, k, none⟩ = some (.int .u32 (d[k] : Int)) ∧ W.frozen? ⟨b, k, none⟩ = false ∧ OX B (VT g v) [u32I B A c (d.set k x)] w0 (W.setCell ⟨b, k, none⟩ (.int .u32 (x : Int))) := by
  have hi : u32I B A c d ∈ [u32I B A c d] := List.mem_cons_self ..
  have ho := h.it _ hi
  have ho' := ho
  rcases ho'.2 with ⟨_, h2⟩ | ⟨b, cap, cur, h1, h2, h3, h4, h5, h6, h7⟩
  · rw [h2] at hk
    exact absurd hk (by omega)
  · injection h1 with e1 e2 e3
    subst e1
    refine ⟨b, rfl, ?_, Joins.unfrozen_of_block h3 k, ?_⟩
    · rcases SlAt.of_own encU_len ho with e | ⟨b2, off, hA, _, hc⟩
      · rw [e] at hk
        simp at hk
      · injection hA with hA
        injection hA with e1 e2
        subst e1; subst e2
        have := hc k _ (List.getElem?_eq_getElem hk) 0 _ rfl
        rwa [Nat.zero_add, Nat.mul_one, Nat.add_zero] at this
    · have := h.mut (VT.objK g v) (it := u32I B (some ⟨b, 0, none⟩) c d) (items' := []) hi (KeptO.of_grown (grown_setCell W b k (.int .u32 (x : Int))) (fun r hr => by cases hr; exact ⟨_, rfl, rfl⟩)) [u32I B (some ⟨b, 0, none⟩) c (d.set k x)] (fun y hy => by
        obtain rfl := List.mem_singleton.1 hy
        refine ⟨?_, fun k ⟨a, ha, e⟩ => .inl ⟨a, ha, e⟩⟩
        show ((W.setCell _ _).ownsRow B 35 1 (.slice (some ⟨b, 0, none⟩) (d.set k x).length c) (d.set k x).length (flatL encU (d.set k x)))
        rw [List.length_set]
        exact own_setU ho x) (fun y hy => by cases hy)
      exact this
end
set_option maxRecDepth 100000 in
set_option maxHeartbeats 4000000 in
theorem nil_main17 (A : Option Addr) (c : Nat) (l : List Nat) (hl : l.length ≤ 60) (hb : ∀ n ∈ l, n ≤ 4294967295) (A2 : Option Addr) (c2 : Nat) (es : List EvI) (hec : es.length ≤ c2) (hes : es.length ≤ 60) (hok : ∀ e ∈ es, evOk e) (w : World) (hS : SlAt encU 1 w A l) (hS2 : SlAt encEv 3 w A2 es) :
    Calls Try.prog 8 #[.slice A l.length c, .slice A2 es.length c2] w fun e w' => e = .returned (.bool true) ∧ Below w.heap.size w w' := by
  obtain ⟨O, hO, hol⟩ := isSet_ex l
  obtain ⟨i0, hi, hz0, hz1, hz2⟩ := info_parts infoU
  have hl1 : ¬ (60 : Int) < (l.length : Int) := by omega
  have hl2 : ¬ (60 : Int) < (es.length : Int) := by omega
  have AL := Lib.hid (fun W => alive17_any W)
  have NR := Lib.hid (fun W (hW : Below w.heap.size w W) => rnew_any (c := c) O (by omega) hb hO (hS.below hW))
  have H63 := Lib.hid (show 0 + l.length ≤ maxLen by unfold maxLen; omega)
  have HBY := Lib.hid (show (0 + l.length) * 4 ≤ 140737488355328 by omega)
  have HOL := Lib.hid (Nat.le_trans hol hl)
  have HS2 := Lib.hid hS2
  have HOK := Lib.hid hok
  have BE := Lib.hid (below_al w (.cells #[] 35))
  have HSA := Lib.hid (hS.below BE.out)
  have HOE := Lib.hid (own_empty (sz := 1) (heap_alloc_new w (.cells #[] 35)) (Nat.le_refl _))
  have HSZ := Lib.hid BE.out.size
  have HB0 := Lib.hid hb
  have HO := Lib.hid hO
  clear hS hO hb hol hS2 hok
  go_enter Try.func8, Try.ntmps8
  go_wp2_with (at_builtin; refine wpList_append_sl _ rfl _ _ 22 rfl w.heap.size 35 i0 _ 4 Try.underlying22 hi hz0 hz1 hz2 rfl (by decide) _ 0 [] rfl HOE.out A l c rfl encU_len HSA.out (one_flatU l) H63.out HBY.out HSZ.out ?_; intro v3 w3 hown3 hg3; rw [Nat.zero_add, List.nil_append] at hown3; obtain ⟨A3, c3, rfl⟩ := own_any hown3; have B3 := Lib.hid (BE.out.grown hg3 BE.out.size (fun k hk => (HOE.out.lt k hk).1)); have O3 := Lib.hid hown3; have NV := Lib.hid (vnew_any A3 c3 l O (by omega) HB0.out HO.out w3 (SlAt.of_own encU_len hown3)); clear hown3 hg3)
  refine NV.out.mono ?_
  rintro e w4 ⟨g, S, rfl, t1, s1, hb1⟩
  have Q4 : Hid (OX w.heap.size (VT g O) [u32I w.heap.size A3 c3 l] w w4) := Lib.hid (by
    have q := OX.start (w0 := w) (W := w4) rfl t1 (fun k hk => Nat.le_trans B3.out.size (s1 k hk)) (below_next B3.out hb1)
    obtain ⟨S', tS, _⟩ := q.tb
    have o4 : w4.ownsRow w.heap.size 35 1 (.slice A3 l.length c3) l.length (flatL encU l) := own_below O3.out hb1
    exact ⟨⟨S, t1, fun k hk => Nat.le_trans B3.out.size (s1 k hk), fun it hit k hk e => by
      obtain rfl := List.mem_singleton.1 hit
      have h1 := (rowI w.heap.size 35 1 A3 l.length c3 (flatL encU l)).lt w3 O3.out k hk
      have h2 := s1 k e
      omega⟩, fun it hit => by rw [List.mem_singleton.1 hit]; exact o4, fun it hit => by rw [List.mem_singleton.1 hit]; exact rowI_ge o4, q.be, q.sz⟩)
  clear t1 s1 hb1 NV O3 B3
  go_wp2_with fail
  go_loopw [31] (fun i wr => ∃ k : Nat, k ≤ l.length ∧ i = .int .i64 k ∧ ∃ d : List Nat, Hid (d.length = l.length) ∧ Hid (OX w.heap.size (VT g O) [u32I w.heap.size A3 c3 d] w wr)) (fun i _ => l.length - (intOf i).toNat)
  case atStart => exact ⟨0, Nat.zero_le _, rfl, l, Lib.hid rfl, Q4⟩
  case round =>
    obtain ⟨k, hk, rfl, d, hd, hX⟩ := hrel
    clear Q4
    have hk0 : (0 : Int) ≤ (k : Int) := by omega
    by_cases hlt : k < l.length
    · have hkd : k < d.length := by rw [hd.out]; exact hlt
      have hk1 : (k : Int) < ((l.length : Nat) : Int) := by omega
      obtain ⟨b, hA, _, _, _⟩ := hX.out.vbump hkd 0
      subst hA
      have HM := Lib.hid (fun x => hX.out.vbump hkd x)
      obtain ⟨b2, hA2, x0, fz, _⟩ := HM.out 0
      injection hA2 with hA2
      injection hA2 with e1
      subst e1
      generalize d[k] = uu at *
      obtain ⟨u2, hu2⟩ : ∃ u2 : Nat, IntKind.u32.wrap ((uu : Int) + 1) = (u2 : Int) := ⟨(IntKind.u32.wrap ((uu : Int) + 1)).toNat, by simp [IntKind.wrap, IntKind.bits, IntKind.signed]; omega⟩
      obtain ⟨b3, hA3, _, _, q5⟩ := HM.out u2
      injection hA3 with hA3
      injection hA3 with e1
      subst e1
      have HM2 := Lib.hid q5
      clear HM hX q5
      go_wp2_with fail
      go_roundw
      case rel => exact ⟨k + 1, by omega, by go_num, _, Lib.hid (by rw [List.length_set]; exact hd.out), HM2⟩
      case measure => simp [intOf]; omega
    · obtain rfl : k = l.length := by omega
      have hlo := HOL.out
      have q5 : OX w.heap.size (VT g O) [] w wr := hX.out.sub (fun x hx => by cases hx)
      have F5 := Lib.hid (q5.vuids (by omega))
      clear hX hd hlt hk q5
      go_wp2_with fail
      refine F5.out.mono ?_
      rintro e w5 ⟨A5, c5, rfl, q5⟩
      have Q5 := Lib.hid q5
      clear q5 F5
      go_wp2_with fail
      go_loopw [45] (fun i wr => ∃ k : Nat, k ≤ O.length ∧ i = .int .i64 k ∧ ∃ d : List Nat, Hid (d.length = O.length) ∧ Hid (OX w.heap.size (VT g O) [u32I w.heap.size A5 c5 d] w wr)) (fun i _ => O.length - (intOf i).toNat)
      case atStart => exact ⟨0, Nat.zero_le _, rfl, O, Lib.hid rfl, Q5⟩
      case round =>
        obtain ⟨k, hk, rfl, d, hd, hX⟩ := hrel
        clear Q5
        have hk0 : (0 : Int) ≤ (k : Int) := by omega
        by_cases hlt : k < O.length
        · have hkd : k < d.length := by rw [hd.out]; exact hlt
          have hk1 : (k : Int) < ((O.length : Nat) : Int) := by omega
          obtain ⟨b, hA, _, _, _⟩ := hX.out.vbump hkd 0
          subst hA
          have HM := Lib.hid (fun x => hX.out.vbump hkd x)
          obtain ⟨b2, hA2, x0, fz, _⟩ := HM.out 0
          injection hA2 with hA2
          injection hA2 with e1
          subst e1
          generalize d[k] = uu at *
          obtain ⟨u2, hu2⟩ : ∃ u2 : Nat, IntKind.u32.wrap ((uu : Int) + 1) = (u2 : Int) := ⟨(IntKind.u32.wrap ((uu : Int) + 1)).toNat, by simp [IntKind.wrap, IntKind.bits, IntKind.signed]; omega⟩
          obtain ⟨b3, hA3, _, _, q5⟩ := HM.out u2
          injection hA3 with hA3
          injection hA3 with e1
          subst e1
          have HM2 := Lib.hid q5
          clear HM hX q5
          go_wp2_with fail
          go_roundw
          case rel => exact ⟨k + 1, by omega, by go_num, _, Lib.hid (by rw [List.length_set]; exact hd.out), HM2⟩
          case measure => simp [intOf]; omega
        · obtain rfl : k = O.length := by omega
          have Q6 : Hid (OX w.heap.size (VT g O) [] w wr) := Lib.hid (hX.out.sub (fun x hx => by cases hx))
          have N1 := Lib.hid (fun W => vat_nil 1 ⟨by omega, by omega⟩ W)
          have N2 := Lib.hid (fun W => vlen_nil W)
          have N3 := Lib.hid (fun W => vseq_nil 1 W)
          have N4 := Lib.hid (fun W => vuids_nil W)
          have N5 := Lib.hid (fun W (h : Below w.heap.size w W) => vapply_nil A2 c2 es (by omega) hec W (HS2.out.below h))
          clear hX hd hlt hk
          go_wp2_with fail
          refine (N1.out _).mono ?_
          rintro e w6 ⟨rfl, h6⟩
          have Q7 := Lib.hid (Q6.out.vbel h6)
          clear h6 Q6 N1
          go_wp2_with fail
          refine (AL.out _).mono ?_
          rintro e w7 ⟨rfl, h7⟩
          have C7 := Lib.hid ((Q7.out.vbel h7).vuids (by omega))
          clear h7 Q7 AL
          go_wp2_with fail
          refine C7.out.mono ?_
          rintro e w8 ⟨A8, c8, rfl, q8⟩
          have N8 := Lib.hid (NR.out _ q8.be)
          have Q8 := Lib.hid q8
          clear q8 C7 NR
          go_wp2_with fail
          refine N8.out.mono ?_
          rintro e w9 ⟨v9, rfl, o9, h9⟩
          obtain ⟨A9, c9, rfl⟩ := own_any o9
          have q9 := Q8.out.vbel h9
          have E9 := equalU_any A8 A9 c8 c9 O O (by omega) (by omega) _ (u32I_at (q9.it _ (List.mem_cons_self ..))) (SlAt.of_own encU_len o9)
          rw [decide_eq_true rfl] at E9
          have E9 := Lib.hid E9
          have B9 := Lib.hid q9.be
          clear q9 o9 h9 N8 Q8
          go_wp2_with fail
          refine E9.out.mono ?_
          rintro e w10 ⟨rfl, h10⟩
          have B10 := Lib.hid (below_next B9.out h10)
          clear h10 E9
          go_wp2_with fail
          refine (N2.out _).mono ?_
          rintro e w11 ⟨rfl, h11⟩
          have B11 := Lib.hid (below_next B10.out h11)
          clear h11 N2
          go_wp2_with fail
          refine (N3.out _).mono ?_
          rintro e w12 ⟨rfl, h12⟩
          have B12 := Lib.hid (below_next B11.out h12)
          clear h12 N3
          go_wp2_with fail
          refine (N4.out _).mono ?_
          rintro e w13 ⟨A13, c13, rfl, h13⟩
          have B13 := Lib.hid (below_next B12.out h13)
          clear h13 N4
          go_wp2_with fail
          refine (N5.out _ B13.out).mono ?_
          rintro e w14 ⟨A14, c14, rfl, h14⟩
          have B14 := Lib.hid (below_next B13.out h14)
          clear h14 N5
          go_wp2_with fail
          go_ret
          exact ⟨rfl, B14.out⟩
theorem viewNil_law (A : Option Addr) (c : Nat) (l : List Nat) (hlm : l.length ≤ maxLen) (hb : ∀ n ∈ l, n ≤ 4294967295) (A2 : Option Addr) (c2 : Nat) (es : List EvI) (hec : es.length ≤ c2) (hem : es.length ≤ maxLen) (hok : ∀ e ∈ es, evOk e) (w : World) (hS : SlAt encU 1 w A l) (hS2 : SlAt encEv 3 w A2 es) :
    Calls Try.prog 8 #[.slice A l.length c, .slice A2 es.length c2] w fun e w' => e = .returned (.bool true) ∧ Below w.heap.size w w' := by
  unfold maxLen at hlm hem
  have AL := Lib.hid (alive17_any w)
  by_cases hl : l.length ≤ 60
  · by_cases he : es.length ≤ 60
    · exact nil_main17 A c l hl hb A2 c2 es hec he hok w hS hS2
    · have hl1 : ¬ (60 : Int) < (l.length : Int) := by omega
      have hl2 : (60 : Int) < (es.length : Int) := by omega
      clear hl he hS hS2 hb hok
      generalize l.length = n1 at *
      generalize es.length = n2 at *
      go_enter Try.func8, Try.ntmps8
      go_wp2_with fail
      refine AL.out.mono ?_
      rintro e w1 ⟨rfl, hb⟩
      go_wp2_with fail
      go_ret
      exact ⟨rfl, hb⟩
  · have hl1 : (60 : Int) < (l.length : Int) := by omega
    clear hl hS hS2 hb hok
    generalize l.length = n1 at *
    generalize es.length = n2 at *
    go_enter Try.func8, Try.ntmps8
    go_wp2_with fail
    refine AL.out.mono ?_
    rintro e w1 ⟨rfl, hb⟩
    go_wp2_with fail
    go_ret
    exact ⟨rfl, hb⟩
end Go.Proofs.Ytefodmbaknedkaa
