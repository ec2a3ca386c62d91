/- The reference's ScanQuoted. -/
import Derived.Test.YtpklpfncohdlhaaDoorScanFQ
import Derived.Test.YtpklpfncohdlhaaDoorAppStr
import Derived.Test.YtpklpfncohdlhaaDoorKeeps
namespace Go.Proofs.YtpklpfncohdlhaaDoor
open Go.RowKit

/-- What a function that scans answers, its bytes read. -/
def RPost (o : Option (List UInt8 × Nat)) (e : Ending) (w' : World) : Prop :=
  (∃ (P : List UInt8) (m : Nat) (A' : Option Addr) (c' : Nat), o = some (P, m) ∧ e = .returned (.tuple #[.slice A' P.length c', .int .i64 (m : Int), .bool true]) ∧ ByAt w'.heap.size w' A' c' P) ∨
  (o = none ∧ e = .returned (.tuple #[.slice none 0 0, .int .i64 0, .bool false]))
theorem ne_byte {x : UInt8} (y : UInt8) (h : x ≠ y) : ((x.toNat : Int) == (y.toNat : Int)) = false ∧ ((x.toNat : Int) != (y.toNat : Int)) = true := by
  have e : ((x.toNat : Int) == (y.toNat : Int)) = false := by
    rw [beq_eq_false_iff_ne]
    intro e
    exact h (UInt8.toNat_inj.1 (by omega))
  exact ⟨e, by rw [bne, e]; rfl⟩
theorem ne_34 {x : UInt8} (h : x ≠ 34) : ((x.toNat : Int) == 34) = false ∧ ((x.toNat : Int) != 34) = true := ne_byte 34 h
theorem ne_92 {x : UInt8} (h : x ≠ 92) : ((x.toNat : Int) == 92) = false ∧ ((x.toNat : Int) != 92) = true := ne_byte 92 h
theorem at_byte {B c p : Nat} {w : World} {A : Option Addr} {l : List UInt8} (h : ByAt B w A c l) {x : UInt8} (hx : l[p]? = some x) : ∃ b off, A = some ⟨b, off, none⟩ ∧ b < w.heap.size ∧ w.cell? ⟨b, off + p, none⟩ = some (.int .u8 (x.toNat : Int)) := by
  obtain ⟨hlt, rfl⟩ := List.getElem?_eq_some_iff.1 hx
  obtain ⟨b, off, hA, _, hw, hc⟩ := h.cell hlt
  exact ⟨b, off, hA, hw, hc⟩
theorem chN_at {l : List UInt8} {p : Nat} {x : UInt8} (hx : l[p]? = some x) (h92 : x ≠ 92) : chN (l.drop p) = (if textN x.toNat = true then 1 else 0) ∧ chV (l.drop p) = x := by
  obtain ⟨hlt, rfl⟩ := List.getElem?_eq_some_iff.1 hx
  rw [List.drop_eq_getElem_cons hlt]
  refine ⟨?_, by unfold chV; rw [if_neg (fun e => h92 (by simpa only [List.getElem?_cons_zero, Option.some.injEq] using e))]; rfl⟩
  cases l.drop (p + 1) <;> rw [chN, if_neg h92]
theorem chN_esc {l : List UInt8} {p : Nat} {d : UInt8} (h1 : l[p]? = some 92) (h2 : l[p + 1]? = some d) : chN (l.drop p) = (if spN d.toNat = true then 2 else 0) ∧ chV (l.drop p) = d := by
  obtain ⟨hlt, he⟩ := List.getElem?_eq_some_iff.1 h1
  obtain ⟨hlt2, rfl⟩ := List.getElem?_eq_some_iff.1 h2
  rw [List.drop_eq_getElem_cons hlt, List.drop_eq_getElem_cons hlt2, he]
  exact ⟨by rw [chN, if_pos rfl], rfl⟩
theorem chN_esc0 {l : List UInt8} {p : Nat} (h1 : l[p]? = some 92) (h2 : l.length = p + 1) : chN (l.drop p) = 0 := by
  obtain ⟨hlt, he⟩ := List.getElem?_eq_some_iff.1 h1
  rw [List.drop_eq_getElem_cons hlt, List.drop_eq_nil_of_le (by omega), he]
  rfl
theorem refQ_no {l : List UInt8} {k : Nat} (h : l[k]? = some 34) (hq : qScan (l.drop (k + 1)) = none) : scanQ l (k : Int) = none := by
  rw [scanQ_yes h, hq]; rfl
theorem refQ_yes {l : List UInt8} {k p : Nat} {X : List UInt8} (h : l[k]? = some 34) (hp : k + 1 ≤ p) (hq : qScan (l.drop (k + 1)) = some (X, p - (k + 1))) : scanQ l (k : Int) = some (X, p + 1) := by
  rw [scanQ_yes h, hq]
  simp only [Option.map_some, Option.some.injEq, Prod.mk.injEq, true_and]
  omega

set_option maxRecDepth 100000 in
set_option maxHeartbeats 4000000 in
theorem refScanQ_mark (B c : Nat) (A : Option Addr) (l : List UInt8) (k : Nat) (hk : l[k]? = some 34) (hl : l.length ≤ 1000000) (w : World) (hA : ByAt B w A c l) :
    Calls Tryd.prog 34 #[.slice A l.length c, .int .i64 (k : Int)] w fun e w' => RPost (scanQ l (k : Int)) e w' ∧ Below w.heap.size w w' := by
  obtain ⟨i0, hi, hz0, hz1, hz2⟩ := info_parts infoByte
  have hkl : k < l.length := (List.getElem?_eq_some_iff.1 hk).1
  obtain ⟨b, off, rfl, _, hc0⟩ := at_byte hA hk
  have hc0' : w.cell? ⟨b, off + k, none⟩ = some (.int .u8 34) := hc0
  have HA := Lib.hid hA.here
  have HNO := Lib.hid (fun h => refQ_no hk h)
  have HYES := Lib.hid (fun p X hp hq => refQ_yes (p := p) (X := X) hk hp hq)
  have RT := Lib.hid (fun n h w1 => refText_any n w1 h)
  have HQ := Lib.hid (QAt.start l (k + 1))
  clear hA hk hc0
  obtain ⟨o, ho⟩ : ∃ o, scanQ l (k : Int) = o := ⟨_, rfl⟩
  rw [ho] at HNO HYES
  rw [ho]
  clear ho
  have d1 : decide ((k : Int) < 0) = false := by simp
  have d2 : decide (l.length ≤ k) = false := by simp; omega
  go_enter Tryd.func34, Tryd.ntmps34
  go_wp2_with fail
  clear hc0'
  go_loopw [7, 8] (fun v i wr => ∃ (p : Nat) (X : List UInt8), p ≤ l.length ∧ k + 1 ≤ p ∧ i = .int .i64 (p : Int) ∧ X.length ≤ p ∧ Hid (wr.ownsRow w.heap.size 5 1 v X.length (flatL encB X)) ∧ Hid (QAt l (k + 1) p X) ∧ Hid (Below w.heap.size w wr)) (fun _ i _ => (l.length : Nat) - (intOf i).toNat)
  case atStart => exact ⟨k + 1, [], by omega, by omega, rfl, by simp, World.ownsRow_nil _ _ _ _, HQ, Below.refl _ _⟩
  case round =>
    obtain ⟨p, X, hp, hkp, rfl, hXl, hown, hX, hB⟩ := hrel
    by_cases hlt : p < l.length
    · have hx : l[p]? = some l[p] := List.getElem?_eq_getElem hlt
      generalize l[p] = x at hx
      obtain ⟨b', off', he, hbw, hc⟩ := at_byte (HA.out.below hB.out) hx
      injection he with he
      injection he with he1 he2 _
      subst he1
      subst he2
      by_cases h34 : x = 34
      · subst h34
        have HR := Lib.hid (HYES.out p X hkp (hX.out.mark hx))
        have hc' : wr.cell? ⟨b, off + p, none⟩ = some (.int .u8 34) := hc
        obtain ⟨A', c', rfl⟩ := own_any hown.out
        have HBY := Lib.hid (ByAt.of_own hown.out)
        clear hc hx
        go_wp2_with fail
        refine bodyPost_ret (v := .tuple #[.slice A' X.length c', .int .i64 ((p : Int) + 1), .bool true]) (by simp [results, Tryd.results34, go_sem]) rfl ⟨?_, hB.out⟩
        exact Or.inl ⟨X, p + 1, A', c', HR.out, by rw [Int.natCast_add]; rfl, HBY.out⟩
      · obtain ⟨f1, f2⟩ := ne_34 h34
        have hne34 : l[p]? ≠ some 34 := by rw [hx]; intro e; exact h34 (Option.some.inj e)
        by_cases h92 : x = 92
        · subst h92
          have hc' : wr.cell? ⟨b, off + p, none⟩ = some (.int .u8 92) := hc
          by_cases hlt2 : p + 1 < l.length
          · have hd : l[p + 1]? = some l[p + 1] := List.getElem?_eq_getElem hlt2
            generalize l[p + 1] = d at hd
            obtain ⟨b', off', he, _, hc2⟩ := at_byte (HA.out.below hB.out) hd
            injection he with he
            injection he with he1 he2 _
            subst he1
            subst he2
            obtain ⟨e1, e2⟩ := chN_esc hx hd
            have hn : d.toNat ≤ 255 := by have := d.toNat_lt; omega
            have R := RT.out d.toNat hn wr
            cases hs : spN d.toNat with
            | true =>
              rw [sp_text hs] at R
              rw [hs, if_pos rfl] at e1
              have HX := Lib.hid (hX.out.go hne34 e1 (by omega))
              rw [e2] at HX
              have R := Lib.hid R
              have hd34 : d = 34 ∨ d = 92 := by
                unfold spN at hs
                simp at hs
                rcases hs with h | h
                · exact Or.inl (UInt8.toNat_inj.1 h)
                · exact Or.inr (UInt8.toNat_inj.1 h)
              clear hc hx hd e1 e2 hs hne34 h34 f1 f2
              have H63 := Lib.hid (show X.length + [d].length ≤ maxLen by simp only [List.length_singleton]; unfold maxLen; omega)
              have HBY := Lib.hid (show (X.length + [d].length) * 1 ≤ 140737488355328 by simp only [List.length_singleton]; omega)
              have HSZ := Lib.hid (show w.heap.size ≤ (wr.alloc (.cells #[.int .u8 (d.toNat : Int)] 5)).heap.size from (hB.out.alloc hB.out.size _).size)
              rcases hd34 with hd34 | hd34
              · have g1 : ((d.toNat : Int) != 34) = false := by rw [hd34]; rfl
                clear hd34
                go_wp2_with fail
                refine R.out.mono ?_
                rintro e w1 ⟨rfl, rfl⟩
                go_wp2_with (at_builtin; refine wpList_append_sl _ rfl _ _ 22 rfl w.heap.size 5 i0 _ 1 Tryd.underlying22 hi hz0 hz1 hz2 rfl (by decide) _ X.length (flatL encB X) rfl (hown.out.alloc _) (some ⟨wr.heap.size, 0, none⟩) [d] 1 rfl encB_len (byAt_val wr d).sl (one_flatB [d]) H63.out HBY.out HSZ.out ?_; intro v2 w2 hown2 hg2)
                have HO2 := Lib.hid (show w2.ownsRow w.heap.size 5 1 v2 (X ++ [d]).length (flatL encB (X ++ [d])) by rw [flatL_append, List.length_append]; exact hown2)
                have HB2 := Lib.hid ((hB.out.alloc hB.out.size _).grown hg2 (hB.out.alloc hB.out.size (.cells #[.int .u8 (d.toNat : Int)] 5)).size (fun kk hkk => (hown.out.lt kk hkk).1))
                clear hown2 hg2
                go_wp2_with fail
                go_roundw
                case rel => exact ⟨p + 2, X ++ [d], by omega, by omega, by go_num, by rw [List.length_append, List.length_singleton]; omega, HO2, HX, HB2⟩
                case measure => simp [intOf]; omega
              · have g1 : ((d.toNat : Int) != 34) = true := by rw [hd34]; rfl
                have g2 : ((d.toNat : Int) != 92) = false := by rw [hd34]; rfl
                clear hd34
                go_wp2_with fail
                refine R.out.mono ?_
                rintro e w1 ⟨rfl, rfl⟩
                go_wp2_with (at_builtin; refine wpList_append_sl _ rfl _ _ 22 rfl w.heap.size 5 i0 _ 1 Tryd.underlying22 hi hz0 hz1 hz2 rfl (by decide) _ X.length (flatL encB X) rfl (hown.out.alloc _) (some ⟨wr.heap.size, 0, none⟩) [d] 1 rfl encB_len (byAt_val wr d).sl (one_flatB [d]) H63.out HBY.out HSZ.out ?_; intro v2 w2 hown2 hg2)
                have HO2 := Lib.hid (show w2.ownsRow w.heap.size 5 1 v2 (X ++ [d]).length (flatL encB (X ++ [d])) by rw [flatL_append, List.length_append]; exact hown2)
                have HB2 := Lib.hid ((hB.out.alloc hB.out.size _).grown hg2 (hB.out.alloc hB.out.size (.cells #[.int .u8 (d.toNat : Int)] 5)).size (fun kk hkk => (hown.out.lt kk hkk).1))
                clear hown2 hg2
                go_wp2_with fail
                go_roundw
                case rel => exact ⟨p + 2, X ++ [d], by omega, by omega, by go_num, by rw [List.length_append, List.length_singleton]; omega, HO2, HX, HB2⟩
                case measure => simp [intOf]; omega
            | false =>
              rw [hs, if_neg (by simp)] at e1
              have HR := Lib.hid (HNO.out (hX.out.stop hne34 e1))
              have hd34 : d ≠ 34 := by rintro rfl; revert hs; decide
              have hd92 : d ≠ 92 := by rintro rfl; revert hs; decide
              obtain ⟨g1, g2⟩ := ne_34 hd34
              obtain ⟨g3, g4⟩ := ne_92 hd92
              clear hc hx hd e1 e2 hs hne34 h34 f1 f2 R hd34 hd92
              generalize d.toNat = dn at *
              go_wp2_with fail
              refine bodyPost_ret (v := .tuple #[.slice none 0 0, .int .i64 0, .bool false]) (by simp [results, Tryd.results34, go_sem]) rfl ⟨?_, hB.out⟩
              exact Or.inr ⟨HR.out, rfl⟩
          · have HR := Lib.hid (HNO.out (hX.out.stop hne34 (chN_esc0 hx (by omega))))
            clear hc hx hne34 h34 f1 f2
            go_wp2_with fail
            refine bodyPost_ret (v := .tuple #[.slice none 0 0, .int .i64 0, .bool false]) (by simp [results, Tryd.results34, go_sem]) rfl ⟨?_, hB.out⟩
            exact Or.inr ⟨HR.out, rfl⟩
        · obtain ⟨f3, f4⟩ := ne_92 h92
          obtain ⟨e1, e2⟩ := chN_at hx h92
          have hn : x.toNat ≤ 255 := by have := x.toNat_lt; omega
          have R := RT.out x.toNat hn wr
          cases ht : textN x.toNat with
          | true =>
            rw [ht] at R
            rw [ht, if_pos rfl] at e1
            have HX := Lib.hid (hX.out.go hne34 e1 (by omega))
            rw [e2] at HX
            have R := Lib.hid R
            clear hx e1 e2 ht hne34 h34 h92
            have H63 := Lib.hid (show X.length + [x].length ≤ maxLen by simp only [List.length_singleton]; unfold maxLen; omega)
            have HBY := Lib.hid (show (X.length + [x].length) * 1 ≤ 140737488355328 by simp only [List.length_singleton]; omega)
            have HSZ := Lib.hid (show w.heap.size ≤ (wr.alloc (.cells #[.int .u8 (x.toNat : Int)] 5)).heap.size from (hB.out.alloc hB.out.size _).size)
            go_wp2_with fail
            refine R.out.mono ?_
            rintro e w1 ⟨rfl, rfl⟩
            go_wp2_with (at_builtin; refine wpList_append_sl _ rfl _ _ 22 rfl w.heap.size 5 i0 _ 1 Tryd.underlying22 hi hz0 hz1 hz2 rfl (by decide) _ X.length (flatL encB X) rfl (hown.out.alloc _) (some ⟨wr.heap.size, 0, none⟩) [x] 1 rfl encB_len (byAt_val wr x).sl (one_flatB [x]) H63.out HBY.out HSZ.out ?_; intro v2 w2 hown2 hg2)
            have HO2 := Lib.hid (show w2.ownsRow w.heap.size 5 1 v2 (X ++ [x]).length (flatL encB (X ++ [x])) by rw [flatL_append, List.length_append]; exact hown2)
            have HB2 := Lib.hid ((hB.out.alloc hB.out.size _).grown hg2 (hB.out.alloc hB.out.size (.cells #[.int .u8 (x.toNat : Int)] 5)).size (fun kk hkk => (hown.out.lt kk hkk).1))
            clear hown2 hg2
            go_wp2_with fail
            go_roundw
            case rel => exact ⟨p + 1, X ++ [x], by omega, by omega, by go_num, by rw [List.length_append, List.length_singleton]; omega, HO2, HX, HB2⟩
            case measure => simp [intOf]; omega
          | false =>
            rw [ht] at R
            rw [ht, if_neg (by simp)] at e1
            have HR := Lib.hid (HNO.out (hX.out.stop hne34 e1))
            have R := Lib.hid R
            clear hx e1 e2 ht hne34 h34 h92
            go_wp2_with fail
            refine R.out.mono ?_
            rintro e w1 ⟨rfl, rfl⟩
            go_wp2_with fail
            refine bodyPost_ret (v := .tuple #[.slice none 0 0, .int .i64 0, .bool false]) (by simp [results, Tryd.results34, go_sem]) rfl ⟨?_, hB.out⟩
            exact Or.inr ⟨HR.out, rfl⟩
    · obtain rfl : p = l.length := by omega
      have HR := Lib.hid (HNO.out (hX.out.stop (by simp) (by simp [chN])))
      go_wp2_with fail
      refine bodyPost_ret (v := .tuple #[.slice none 0 0, .int .i64 0, .bool false]) (by simp [results, Tryd.results34, go_sem]) rfl ⟨?_, hB.out⟩
      exact Or.inr ⟨HR.out, rfl⟩
end Go.Proofs.YtpklpfncohdlhaaDoor
