import Derived.Test.YtpgfnlhfciacoaaGreatDoorPGu
import Derived.Test.YtpgfnlhfciacoaaGreatDoorPGy
set_option maxRecDepth 100000
set_option maxHeartbeats 4000000
open Go.Lib renaming hid → Hi
namespace Go.Proofs.YtpgfnlhfciacoaaGreatDoor
open Go.RowKit
def RPost (o : Option (List UInt8 × Nat)) (e : Ending) (w' : World) : Prop :=
 (∃ (P : List UInt8) (m : Nat) (A' : Option Addr) (c' : Nat), o = some (P, m) ∧ e = .returned (.tuple #[.slice A' P.length c', .int .i64 (m : Int), .bool true]) ∧ ByAt w'.heap.size w' A' c' P) ∨
 (o = none ∧ e = .returned (.tuple #[.slice none 0 0, .int .i64 0, .bool false]))
theorem ne_byte {x : UInt8} (y : UInt8) (h : x ≠ y) : ((x.toNat : Int) == (y.toNat : Int)) = false ∧ ((x.toNat : Int) != (y.toNat : Int)) = true := by
 have e : ((x.toNat : Int) == (y.toNat : Int)) = false := by
  rw [beq_eq_false_iff_ne]
  intro e
  exact h (UInt8.toNat_inj.1 (by omega))
 exact ⟨e, by rw [bne, e]; rfl⟩
theorem ne_34 {x : UInt8} (h : x ≠ 34) : ((x.toNat : Int) == 34) = false ∧ ((x.toNat : Int) != 34) = true := ne_byte 34 h
theorem ne_92 {x : UInt8} (h : x ≠ 92) : ((x.toNat : Int) == 92) = false ∧ ((x.toNat : Int) != 92) = true := ne_byte 92 h
theorem at_byte {B c p : Nat} {w : World} {A : Option Addr} {l : List UInt8} (h : ByAt B w A c l) {x : UInt8} (hx : l[p]? = some x) : ∃ b off, A = some ⟨b, off, none⟩ ∧ b < w.heap.size ∧ w.cell? ⟨b, off + p, none⟩ = some (.int .u8 (x.toNat : Int)) := by
 obtain ⟨hlt, rfl⟩ := List.getElem?_eq_some_iff.1 hx
 obtain ⟨b, off, hA, _, hw, hc⟩ := h.cell hlt
 exact ⟨b, off, hA, hw, hc⟩
theorem chN_at {l : List UInt8} {p : Nat} {x : UInt8} (hx : l[p]? = some x) (h92 : x ≠ 92) : chN (l.drop p) = (if textN x.toNat = true then 1 else 0) ∧ chV (l.drop p) = x := by
 obtain ⟨hlt, rfl⟩ := List.getElem?_eq_some_iff.1 hx
 rw [List.drop_eq_getElem_cons hlt]
 refine ⟨?_, by unfold chV; rw [if_neg (fun e => h92 (by simpa only [List.getElem?_cons_zero, Option.some.injEq] using e))]; rfl⟩
 cases l.drop (p + 1) <;> rw [chN, if_neg h92]
theorem chN_esc {l : List UInt8} {p : Nat} {d : UInt8} (h1 : l[p]? = some 92) (h2 : l[p + 1]? = some d) : chN (l.drop p) = (if spN d.toNat = true then 2 else 0) ∧ chV (l.drop p) = d := by
 obtain ⟨hlt, he⟩ := List.getElem?_eq_some_iff.1 h1
 obtain ⟨hlt2, rfl⟩ := List.getElem?_eq_some_iff.1 h2
 rw [List.drop_eq_getElem_cons hlt, List.drop_eq_getElem_cons hlt2, he]
 exact ⟨by rw [chN, if_pos rfl], rfl⟩
theorem chN_esc0 {l : List UInt8} {p : Nat} (h1 : l[p]? = some 92) (h2 : l.length = p + 1) : chN (l.drop p) = 0 := by
 obtain ⟨hlt, he⟩ := List.getElem?_eq_some_iff.1 h1
 rw [List.drop_eq_getElem_cons hlt, List.drop_eq_nil_of_le (by omega), he]
 rfl
theorem refQ_no {l : List UInt8} {k : Nat} (h : l[k]? = some 34) (hq : ZL (l.drop (k + 1)) = none) : scanQ l (k : Int) = none := by
 rw [scanQ_yes h, hq]; rfl
theorem refQ_yes {l : List UInt8} {k p : Nat} {X : List UInt8} (h : l[k]? = some 34) (hp : k + 1 ≤ p) (hq : ZL (l.drop (k + 1)) = some (X, p - (k + 1))) : scanQ l (k : Int) = some (X, p + 1) := by
 rw [scanQ_yes h, hq]
 simp only [Option.map_some, Option.some.injEq, Prod.mk.injEq, true_and]
 omega
theorem refScanQ_mark (B c : Nat) (A : Option Addr) (l : List UInt8) (k : Nat) (hk : l[k]? = some 34) (hl : l.length ≤ 1000000) (w : World) (hA : ByAt B w A c l) :
 Calls Tryz.prog 135 #[.slice A l.length c, .int .i64 (k : Int)] w fun e w' => RPost (scanQ l (k : Int)) e w' ∧ Below w.heap.size w w' := by
 obtain ⟨i0, hi, hz0, hz1, hz2⟩ := info_parts infoByte
 have hkl : k < l.length := (List.getElem?_eq_some_iff.1 hk).1
 obtain ⟨b, off, rfl, _, hc0⟩ := at_byte hA hk
 have hc0' : w.cell? ⟨b, off + k, none⟩ = some (.int .u8 34) := hc0
 have HA := Hi hA.here
 have HNO := Hi (fun h => refQ_no hk h)
 have HYES := Hi (fun p X hp hq => refQ_yes (p := p) (X := X) hk hp hq)
 have RT := Hi (fun n h w1 => refText_any n w1 h)
 have HQ := Hi (QAt.start l (k + 1))
 clear hA hk hc0
 obtain ⟨o, ho⟩ : ∃ o, scanQ l (k : Int) = o := ⟨_, rfl⟩
 rw [ho] at HNO HYES
 rw [ho]
 clear ho
 have d1 : decide ((k : Int) < 0) = false := by simp
 have d2 : decide (l.length ≤ k) = false := by simp; omega
 go_enter Tryz.func135, Tryz.ntmps135
 go_wp2_with fail
 clear hc0'
 go_loopw [7, 8] (fun v i wr => ∃ (p : Nat) (X : List UInt8), p ≤ l.length ∧ k + 1 ≤ p ∧ i = .int .i64 (p : Int) ∧ X.length ≤ p ∧ Hid (wr.ownsRow w.heap.size 5 1 v X.length (YF encB X)) ∧ Hid (QAt l (k + 1) p X) ∧ Hid (Below w.heap.size w wr)) (fun _ i _ => (l.length : Nat) - (intOf i).toNat)
 case atStart => exact ⟨k + 1, [], by omega, by omega, rfl, by simp, World.ownsRow_nil _ _ _ _, HQ, Below.refl _ _⟩
 case round =>
  obtain ⟨p, X, hp, hkp, rfl, hXl, hown, hX, hB⟩ := hrel
  by_cases hlt : p < l.length
  · have hx : l[p]? = some l[p] := List.getElem?_eq_getElem hlt
    generalize l[p] = x at hx
    obtain ⟨b', off', he, hbw, hc⟩ := at_byte (HA.out.below hB.out) hx
    injection he with he
    injection he with he1 he2 _
    subst he1
    subst he2
    by_cases h34 : x = 34
    · subst h34
      have HR := Hi (HYES.out p X hkp (hX.out.mark hx))
      have hc' : wr.cell? ⟨b, off + p, none⟩ = some (.int .u8 34) := hc
      obtain ⟨A', c', rfl⟩ := YV hown.out
      have HBY := Hi (ByAt.of_own hown.out)
      clear hc hx
      go_wp2_with fail
      refine bodyPost_ret (v := .tuple #[.slice A' X.length c', .int .i64 ((p : Int) + 1), .bool true]) (by simp [results, Tryz.results135, go_sem]) rfl ⟨?_, hB.out⟩
      exact Or.inl ⟨X, p + 1, A', c', HR.out, by rw [Int.natCast_add]; rfl, HBY.out⟩
    · obtain ⟨f1, f2⟩ := ne_34 h34
      have hne34 : l[p]? ≠ some 34 := by rw [hx]; intro e; exact h34 (Option.some.inj e)
      by_cases h92 : x = 92
      · subst h92
        have hc' : wr.cell? ⟨b, off + p, none⟩ = some (.int .u8 92) := hc
        by_cases hlt2 : p + 1 < l.length
        · have hd : l[p + 1]? = some l[p + 1] := List.getElem?_eq_getElem hlt2
          generalize l[p + 1] = d at hd
          obtain ⟨b', off', he, _, hc2⟩ := at_byte (HA.out.below hB.out) hd
          injection he with he
          injection he with he1 he2 _
          subst he1
          subst he2
          obtain ⟨e1, e2⟩ := chN_esc hx hd
          have hn : d.toNat ≤ 255 := by have := d.toNat_lt; omega
          have R := RT.out d.toNat hn wr
          cases hs : spN d.toNat with
          | true =>
            rw [sp_text hs] at R
            rw [hs, if_pos rfl] at e1
            have HX := Hi (hX.out.go hne34 e1 (by omega))
            rw [e2] at HX
            have R := Hi R
            have hd34 : d = 34 ∨ d = 92 := by
             unfold spN at hs
             simp at hs
             rcases hs with h | h
             · exact Or.inl (UInt8.toNat_inj.1 h)
             · exact Or.inr (UInt8.toNat_inj.1 h)
            clear hc hx hd e1 e2 hs hne34 h34 f1 f2
            have H63 := Hi (show X.length + [d].length ≤ maxLen by simp only [List.length_singleton]; unfold maxLen; omega)
            have HBY := Hi (show (X.length + [d].length) * 1 ≤ 140737488355328 by simp only [List.length_singleton]; omega)
            have HSZ := Hi (show w.heap.size ≤ (wr.alloc (.cells #[.int .u8 (d.toNat : Int)] 5)).heap.size from (hB.out.alloc hB.out.size _).size)
            rcases hd34 with hd34 | hd34
            · have g1 : ((d.toNat : Int) != 34) = false := by rw [hd34]; rfl
              clear hd34
              go_wp2_with fail
              refine R.out.mono ?_
              rintro e w1 ⟨rfl, rfl⟩
              go_wp2_with (at_builtin; refine YL _ rfl _ _ 24 rfl w.heap.size 5 i0 _ 1 Tryz.underlying24 hi hz0 hz1 hz2 rfl (by decide) _ X.length (YF encB X) rfl (hown.out.alloc _) (some ⟨wr.heap.size, 0, none⟩) [d] 1 rfl encB_len (byAt_val wr d).sl (one_flatB [d]) H63.out HBY.out HSZ.out ?_; intro v2 w2 hown2 hg2)
              have HO2 := Hi (show w2.ownsRow w.heap.size 5 1 v2 (X ++ [d]).length (YF encB (X ++ [d])) by rw [ZR, List.length_append]; exact hown2)
              have HB2 := Hi ((hB.out.alloc hB.out.size _).grown hg2 (hB.out.alloc hB.out.size (.cells #[.int .u8 (d.toNat : Int)] 5)).size (fun kk hkk => (hown.out.lt kk hkk).1))
              clear hown2 hg2
              go_wp2_with fail
              go_roundw
              case rel => exact ⟨p + 2, X ++ [d], by omega, by omega, by go_num, by rw [List.length_append, List.length_singleton]; omega, HO2, HX, HB2⟩
              case measure => simp [intOf]; omega
            · have g1 : ((d.toNat : Int) != 34) = true := by rw [hd34]; rfl
              have g2 : ((d.toNat : Int) != 92) = false := by rw [hd34]; rfl
              clear hd34
              go_wp2_with fail
              refine R.out.mono ?_
              rintro e w1 ⟨rfl, rfl⟩
              go_wp2_with (at_builtin; refine YL _ rfl _ _ 24 rfl w.heap.size 5 i0 _ 1 Tryz.underlying24 hi hz0 hz1 hz2 rfl (by decide) _ X.length (YF encB X) rfl (hown.out.alloc _) (some ⟨wr.heap.size, 0, none⟩) [d] 1 rfl encB_len (byAt_val wr d).sl (one_flatB [d]) H63.out HBY.out HSZ.out ?_; intro v2 w2 hown2 hg2)
              have HO2 := Hi (show w2.ownsRow w.heap.size 5 1 v2 (X ++ [d]).length (YF encB (X ++ [d])) by rw [ZR, List.length_append]; exact hown2)
              have HB2 := Hi ((hB.out.alloc hB.out.size _).grown hg2 (hB.out.alloc hB.out.size (.cells #[.int .u8 (d.toNat : Int)] 5)).size (fun kk hkk => (hown.out.lt kk hkk).1))
              clear hown2 hg2
              go_wp2_with fail
              go_roundw
              case rel => exact ⟨p + 2, X ++ [d], by omega, by omega, by go_num, by rw [List.length_append, List.length_singleton]; omega, HO2, HX, HB2⟩
              case measure => simp [intOf]; omega
          | false =>
            rw [hs, if_neg (by simp)] at e1
            have HR := Hi (HNO.out (hX.out.stop hne34 e1))
            have hd34 : d ≠ 34 := by rintro rfl; revert hs; decide
            have hd92 : d ≠ 92 := by rintro rfl; revert hs; decide
            obtain ⟨g1, g2⟩ := ne_34 hd34
            obtain ⟨g3, g4⟩ := ne_92 hd92
            clear hc hx hd e1 e2 hs hne34 h34 f1 f2 R hd34 hd92
            generalize d.toNat = dn at *
            go_wp2_with fail
            refine bodyPost_ret (v := .tuple #[.slice none 0 0, .int .i64 0, .bool false]) (by simp [results, Tryz.results135, go_sem]) rfl ⟨?_, hB.out⟩
            exact Or.inr ⟨HR.out, rfl⟩
        · have HR := Hi (HNO.out (hX.out.stop hne34 (chN_esc0 hx (by omega))))
          clear hc hx hne34 h34 f1 f2
          go_wp2_with fail
          refine bodyPost_ret (v := .tuple #[.slice none 0 0, .int .i64 0, .bool false]) (by simp [results, Tryz.results135, go_sem]) rfl ⟨?_, hB.out⟩
          exact Or.inr ⟨HR.out, rfl⟩
      · obtain ⟨f3, f4⟩ := ne_92 h92
        obtain ⟨e1, e2⟩ := chN_at hx h92
        have hn : x.toNat ≤ 255 := by have := x.toNat_lt; omega
        have R := RT.out x.toNat hn wr
        cases ht : textN x.toNat with
        | true =>
          rw [ht] at R
          rw [ht, if_pos rfl] at e1
          have HX := Hi (hX.out.go hne34 e1 (by omega))
          rw [e2] at HX
          have R := Hi R
          clear hx e1 e2 ht hne34 h34 h92
          have H63 := Hi (show X.length + [x].length ≤ maxLen by simp only [List.length_singleton]; unfold maxLen; omega)
          have HBY := Hi (show (X.length + [x].length) * 1 ≤ 140737488355328 by simp only [List.length_singleton]; omega)
          have HSZ := Hi (show w.heap.size ≤ (wr.alloc (.cells #[.int .u8 (x.toNat : Int)] 5)).heap.size from (hB.out.alloc hB.out.size _).size)
          go_wp2_with fail
          refine R.out.mono ?_
          rintro e w1 ⟨rfl, rfl⟩
          go_wp2_with (at_builtin; refine YL _ rfl _ _ 24 rfl w.heap.size 5 i0 _ 1 Tryz.underlying24 hi hz0 hz1 hz2 rfl (by decide) _ X.length (YF encB X) rfl (hown.out.alloc _) (some ⟨wr.heap.size, 0, none⟩) [x] 1 rfl encB_len (byAt_val wr x).sl (one_flatB [x]) H63.out HBY.out HSZ.out ?_; intro v2 w2 hown2 hg2)
          have HO2 := Hi (show w2.ownsRow w.heap.size 5 1 v2 (X ++ [x]).length (YF encB (X ++ [x])) by rw [ZR, List.length_append]; exact hown2)
          have HB2 := Hi ((hB.out.alloc hB.out.size _).grown hg2 (hB.out.alloc hB.out.size (.cells #[.int .u8 (x.toNat : Int)] 5)).size (fun kk hkk => (hown.out.lt kk hkk).1))
          clear hown2 hg2
          go_wp2_with fail
          go_roundw
          case rel => exact ⟨p + 1, X ++ [x], by omega, by omega, by go_num, by rw [List.length_append, List.length_singleton]; omega, HO2, HX, HB2⟩
          case measure => simp [intOf]; omega
        | false =>
          rw [ht] at R
          rw [ht, if_neg (by simp)] at e1
          have HR := Hi (HNO.out (hX.out.stop hne34 e1))
          have R := Hi R
          clear hx e1 e2 ht hne34 h34 h92
          go_wp2_with fail
          refine R.out.mono ?_
          rintro e w1 ⟨rfl, rfl⟩
          go_wp2_with fail
          refine bodyPost_ret (v := .tuple #[.slice none 0 0, .int .i64 0, .bool false]) (by simp [results, Tryz.results135, go_sem]) rfl ⟨?_, hB.out⟩
          exact Or.inr ⟨HR.out, rfl⟩
  · obtain rfl : p = l.length := by omega
    have HR := Hi (HNO.out (hX.out.stop (by simp) (by simp [chN])))
    go_wp2_with fail
    refine bodyPost_ret (v := .tuple #[.slice none 0 0, .int .i64 0, .bool false]) (by simp [results, Tryz.results135, go_sem]) rfl ⟨?_, hB.out⟩
    exact Or.inr ⟨HR.out, rfl⟩
section
open Go.Lib hiding intOf
theorem refScanQ_no (B c : Nat) (A : Option Addr) (l : List UInt8) (x : Int) (h1 : -9223372036854775808 ≤ x) (h2 : x ≤ 9223372036854775807) (hx : x < 0 ∨ l[x.toNat]? ≠ some 34) (_hl : l.length ≤ 1000000) (w : World) (hA : ByAt B w A c l) :
 Calls Tryz.prog 135 #[.slice A l.length c, .int .i64 x] w fun e w' => e = .returned (.tuple #[.slice none 0 0, .int .i64 0, .bool false]) ∧ w = w' := by
 by_cases h0 : x < 0
 · have d1 : decide (x < 0) = true := by simp; omega
   clear hx hA
   go_enter Tryz.func135, Tryz.ntmps135
   go_wp2_with fail
   exact bodyPost_ret (v := .tuple #[.slice none 0 0, .int .i64 0, .bool false]) (by simp [results, Tryz.results135, go_sem]) rfl ⟨rfl, rfl⟩
 · obtain ⟨k, rfl⟩ : ∃ k : Nat, x = k := ⟨x.toNat, by omega⟩
   have d1 : decide ((k : Int) < 0) = false := by simp
   have hx' : l[k]? ≠ some 34 := by
    rcases hx with h | h
    · omega
    · exact h
   clear hx h0
   by_cases hlt : k < l.length
   · have d2 : decide (l.length ≤ k) = false := by simp; omega
     have hb : l[k]? = some l[k] := List.getElem?_eq_getElem hlt
     generalize l[k] = y at hb
     obtain ⟨b, off, rfl, _, hc⟩ := at_byte hA hb
     obtain ⟨f1, f2⟩ := ne_34 (x := y) (by rintro rfl; exact hx' hb)
     clear hx' hb hA
     generalize y.toNat = yn at *
     go_enter Tryz.func135, Tryz.ntmps135
     go_wp2_with fail
     exact bodyPost_ret (v := .tuple #[.slice none 0 0, .int .i64 0, .bool false]) (by simp [results, Tryz.results135, go_sem]) rfl ⟨rfl, rfl⟩
   · have d2 : decide (l.length ≤ k) = true := by simp; omega
     clear hx' hA
     go_enter Tryz.func135, Tryz.ntmps135
     go_wp2_with fail
     exact bodyPost_ret (v := .tuple #[.slice none 0 0, .int .i64 0, .bool false]) (by simp [results, Tryz.results135, go_sem]) rfl ⟨rfl, rfl⟩
theorem refScanQuoted_any (B c : Nat) (A : Option Addr) (l : List UInt8) (x : Int) (h1 : -9223372036854775808 ≤ x) (h2 : x ≤ 9223372036854775807) (hl : l.length ≤ 1000000) (w : World) (hA : ByAt B w A c l) :
 Calls Tryz.prog 135 #[.slice A l.length c, .int .i64 x] w fun e w' => RPost (scanQ l x) e w' ∧ Below w.heap.size w w' := by
 by_cases hin : 0 ≤ x ∧ l[x.toNat]? = some 34
 · obtain ⟨k, rfl⟩ : ∃ k : Nat, x = k := ⟨x.toNat, by omega⟩
   exact refScanQ_mark B c A l k hin.2 hl w hA
 · have hx : x < 0 ∨ l[x.toNat]? ≠ some 34 := by
    by_cases h : x < 0
    · exact Or.inl h
    · exact Or.inr fun e => hin ⟨by omega, e⟩
   rw [scanQ_no hx]
   refine (refScanQ_no B c A l x h1 h2 hx hl w hA).mono ?_
   rintro e w' ⟨he, rfl⟩
   exact ⟨Or.inr ⟨rfl, he⟩, Below.refl _ _⟩
theorem dig_125 : QC 125 = false := by decide
def No125 (l : List UInt8) (a p : Nat) : Prop := ∀ j : Nat, a ≤ j → j < p → l[j]? ≠ some 125
theorem No125.next {l : List UInt8} {a p : Nat} (h : No125 l a p) (hp : l[p]? ≠ some 125) : No125 l a (p + 1) := fun j h1 h2 => by
 rcases Nat.lt_or_ge j p with hlt | hge
 · exact h j h1 hlt
 · obtain rfl : j = p := by omega
   exact hp
theorem ann_shape {l : List UInt8} {k n j : Nat} (h : annO (l.drop k) = some (n, j)) : ∃ D, dgL (l.drop (k + 1)) = D ∧ QH D = some n ∧ l[k + 1 + D.length]? = some 125 ∧ j = D.length + 2 := by
 unfold annO at h
 rw [List.drop_drop] at h
 split at h
 · split at h
   · rename_i m hm
     split at h
     · rename_i h125
       simp only [Option.some.injEq, Prod.mk.injEq] at h
       obtain ⟨rfl, rfl⟩ := h
       rw [List.getElem?_drop] at h125
       exact ⟨_, rfl, hm, h125, rfl⟩
     · cases h
   · cases h
 · cases h
theorem dgL_at {l : List UInt8} {a : Nat} {i : Nat} (hi : i < (dgL (l.drop a)).length) : ∃ y, l[a + i]? = some y ∧ QC y = true := by
 have hpre : dgL (l.drop a) <+: l.drop a := List.takeWhile_prefix _
 obtain ⟨t, ht⟩ := hpre
 refine ⟨(dgL (l.drop a))[i], ?_, ?_⟩
 · have e : (l.drop a)[i]? = (dgL (l.drop a))[i]? := by
    conv => lhs; rw [← ht]
    rw [List.getElem?_append_left hi]
   rw [← List.getElem?_drop, e, List.getElem?_eq_getElem hi]
 · have : (dgL (l.drop a)).all QC = true := List.all_takeWhile
   exact List.all_eq_true.1 this _ (List.getElem_mem hi)
theorem ann_first {l : List UInt8} {k p : Nat} (hk : l[k]? = some 123) (hp : l[p]? = some 125) (hkp : k + 1 ≤ p) (hno : No125 l (k + 1) p) : annO (l.drop k) = match QH ((l.take p).drop (k + 1)) with | some n => some (n, p - k + 1) | none => none := by
 obtain ⟨hpl, hpe⟩ := List.getElem?_eq_some_iff.1 hp
 have hsplit : l.drop (k + 1) = (l.take p).drop (k + 1) ++ 125 :: l.drop (p + 1) := by
  conv => lhs; rw [← List.take_append_drop p l, List.drop_eq_getElem_cons hpl, hpe, List.drop_append_of_le_length (by rw [List.length_take]; omega)]
 have hDl : ((l.take p).drop (k + 1)).length = p - (k + 1) := cut_len (by omega)
 cases ho : QH ((l.take p).drop (k + 1)) with
 | some n =>
   obtain ⟨h1, h2⟩ := numOf_some ho
   have e2 : dgL (l.drop (k + 1)) = (l.take p).drop (k + 1) := by
    rw [hsplit]
    exact takeWhile_front _ _ _ (fun c hc => by rw [← h2] at hc; exact dec_dig n c hc) dig_125
   unfold annO
   rw [if_pos (by rw [drop_at]; exact hk), List.drop_drop, e2, ho]
   simp only
   rw [if_pos (by rw [hsplit, List.getElem?_append_right (Nat.le_refl _), Nat.sub_self]; rfl), hDl]
   congr 2
   omega
 | none =>
   cases ha : annO (l.drop k) with
   | none => rfl
   | some t =>
     obtain ⟨n, j⟩ := t
     obtain ⟨D, hD, hn, h125, _⟩ := ann_shape ha
     have hpe2 : p = k + 1 + D.length := by
      rcases Nat.lt_trichotomy p (k + 1 + D.length) with hlt | heq | hgt
      · obtain ⟨y, h1, h2⟩ := dgL_at (l := l) (a := k + 1) (i := p - (k + 1)) (by rw [hD]; omega)
        rw [show k + 1 + (p - (k + 1)) = p by omega, hp] at h1
        obtain rfl := Option.some.inj h1
        exact absurd h2 (by decide)
      · exact heq
      · exact absurd h125 (hno _ (by omega) hgt)
     have hDD : (l.take p).drop (k + 1) = D := by
      have hpre : dgL (l.drop (k + 1)) <+: l.drop (k + 1) := List.takeWhile_prefix _
      obtain ⟨t, ht⟩ := hpre
      have e : (l.drop (k + 1)).take D.length = D := by rw [← ht, hD, List.take_left']; rfl
      rw [List.drop_take, show p - (k + 1) = D.length by omega]
      exact e
     rw [hDD, hn] at ho
     cases ho
theorem ann_none {l : List UInt8} {k p : Nat} (hno : No125 l (k + 1) p) (hend : l.length ≤ p ∨ k + 12 < p) : annO (l.drop k) = none := by
 cases ha : annO (l.drop k) with
 | none => rfl
 | some t =>
   obtain ⟨n, j⟩ := t
   obtain ⟨D, hD, hn, h125, _⟩ := ann_shape ha
   obtain ⟨h1, h2⟩ := numOf_some hn
   have hl := dec_len h1
   rw [h2] at hl
   have hlt := (List.getElem?_eq_some_iff.1 h125).1
   rcases Nat.lt_or_ge (k + 1 + D.length) p with h | h
   · exact absurd h125 (hno _ (by omega) h)
   · rcases hend with he | he
     · omega
     · omega
theorem refL_none {l : List UInt8} {k : Nat} (h : annO (l.drop k) = none) : scanL l (k : Int) = none := by
 apply scanL_none
 unfold annX
 rw [if_pos (by omega)]
 exact h
theorem refL_some {l : List UInt8} {k p n : Nat} (hkp : k + 1 ≤ p) (h : annO (l.drop k) = some (n, p - k + 1)) : scanL l (k : Int) = if n ≤ 65536 ∧ l[p + 1]? = some 13 ∧ l[p + 2]? = some 10 ∧ p + 3 + n ≤ l.length then some ((l.drop (p + 3)).take n, p + 3 + n) else none := by
 have e : annX l (k : Int) = some (n, p - k + 1) := by unfold annX; rw [if_pos (by omega)]; exact h
 rw [scanL_some e, show k + (p - k + 1) = p + 1 by omega]
theorem refScanL_mark (B c : Nat) (A : Option Addr) (l : List UInt8) (k : Nat) (hk : l[k]? = some 123) (hl : l.length ≤ 1000000) (w : World) (hA : ByAt B w A c l) :
 Calls Tryz.prog 136 #[.slice A l.length c, .int .i64 (k : Int)] w fun e w' => RPost (scanL l (k : Int)) e w' ∧ Below w.heap.size w w' := by
 obtain ⟨i0, hi, hz0, hz1, hz2⟩ := info_parts infoByte
 have hkl : k < l.length := (List.getElem?_eq_some_iff.1 hk).1
 obtain ⟨b, off, rfl, _, hc0⟩ := at_byte hA hk
 have hc0' : w.cell? ⟨b, off + k, none⟩ = some (.int .u8 123) := hc0
 have HA := Hi hA.here
 have hle := hA.le
 have HK := Hi hk
 clear hA hk hc0
 obtain ⟨o, ho⟩ : ∃ o, scanL l (k : Int) = o := ⟨_, rfl⟩
 have HO := Hi ho
 rw [ho]
 clear ho
 have d1 : decide ((k : Int) < 0) = false := by simp
 have d2 : decide (l.length ≤ k) = false := by simp; omega
 have hse := fun x lo hi mx W => YY x lo hi mx W
 go_enter Tryz.func136, Tryz.ntmps136
 go_wp2_with fail
 clear hc0'
 go_loop [7] (fun i => ∃ p : Nat, p ≤ l.length ∧ k + 1 ≤ p ∧ p ≤ k + 13 ∧ i = .int .i64 (p : Int) ∧ Hid (No125 l (k + 1) p)) (fun i => (l.length : Nat) - (intOf i).toNat)
 case atStart => exact ⟨k + 1, by omega, by omega, by omega, rfl, fun j h1 h2 => by omega⟩
 case round =>
  obtain ⟨p, hp, hkp, hp13, rfl, hno⟩ := hrel
  by_cases hlt : p < l.length
  · have hx : l[p]? = some l[p] := List.getElem?_eq_getElem hlt
    generalize l[p] = x at hx
    obtain ⟨b', off', he, hbw, hc⟩ := at_byte HA.out hx
    injection he with he
    injection he with he1 he2 _
    subst he1
    subst he2
    by_cases h125 : x = 125
    · subst h125
      have hc' : w.cell? ⟨b, off + p, none⟩ = some (.int .u8 125) := hc
      have HAN := Hi (ann_first HK.out hx hkp hno.out)
      have NM := refNumber_any ⟨((l.take p).drop (k + 1)).toArray⟩ (by rw [mk_size, cut_len (by omega)]; omega) w
      rw [show (ByteArray.mk ((l.take p).drop (k + 1)).toArray).data.toList = (l.take p).drop (k + 1) by simp] at NM
      have hcv := convS _ w _ (c - (k + 1)) (p - (k + 1)) _ (HA.out.cut (lo := k + 1) (hi := p) hkp hp) (cut_len hp)
      have hsl : ∀ W : World, (Instr.slice 24 (.slice (some ⟨b, off, none⟩) l.length c) (some (.int .i64 ((k : Int) + 1))) (some (.int .i64 (p : Int))) none).run Tryz.prog W = .ok (.slice (offA (some ⟨b, off, none⟩) c (k + 1)) (p - (k + 1)) (c - (k + 1))) W := fun W => by
       have := slice_lh (some ⟨b, off, none⟩) l.length c (k + 1) p hkp (by omega) W
       rwa [Int.natCast_add] at this
      obtain ⟨D, hDe⟩ : ∃ D, (l.take p).drop (k + 1) = D := ⟨_, rfl⟩
      rw [hDe] at NM hcv HAN
      clear hDe hc hx
      cases hn : QH D with
      | none =>
        rw [hn] at NM HAN
        have HR := Hi (show o = none from HO.out.symm.trans (refL_none HAN.out))
        have NM := Hi NM
        clear hn
        go_wp2_with fail
        refine NM.out.mono ?_
        rintro e w1 ⟨rfl, rfl⟩
        go_wp2_with fail
        refine bodyPost_ret (v := .tuple #[.slice none 0 0, .int .i64 0, .bool false]) (by simp [results, Tryz.results136, go_sem]) rfl ⟨?_, Below.refl _ _⟩
        exact Or.inr ⟨HR.out, rfl⟩
      | some n =>
        have hnle := num_le hn
        rw [hn] at NM HAN
        rw [show ((some n).getD 0 : Nat) = n from rfl, show (some n).isSome = true from rfl] at NM
        have HSL := Hi (HO.out.symm.trans (refL_some hkp HAN.out))
        have NM := Hi NM
        clear hn HAN
        by_cases hbig : n ≤ 65536
        · have e1 : decide (65536 < (n : Int)) = false := by simp; omega
          by_cases hfrom : p + 3 ≤ l.length
          · have e2 : decide ((l.length : Int) < (p : Int) + 3) = false := by simp; omega
            have hy : l[p + 1]? = some (l[p + 1]'(by omega)) := List.getElem?_eq_getElem _
            generalize l[p + 1]'(by omega) = y at hy
            obtain ⟨b', off', he, _, hcy⟩ := at_byte HA.out hy
            injection he with he
            injection he with he1 he2 _
            subst he1
            subst he2
            have hz : l[p + 2]? = some (l[p + 2]'(by omega)) := List.getElem?_eq_getElem _
            generalize l[p + 2]'(by omega) = z at hz
            obtain ⟨b', off', he, _, hcz⟩ := at_byte HA.out hz
            injection he with he
            injection he with he1 he2 _
            subst he1
            subst he2
            by_cases h13 : y = 13
            · subst h13
              have hcy' : w.cell? ⟨b, off + (p + 1), none⟩ = some (.int .u8 13) := hcy
              by_cases h10 : z = 10
              · subst h10
                have hcz' : w.cell? ⟨b, off + (p + 2), none⟩ = some (.int .u8 10) := hcz
                by_cases hfit : p + 3 + n ≤ l.length
                · have HR := Hi (HSL.out.trans (if_pos ⟨hbig, hy, hz, hfit⟩))
                  clear hcy hcz hy hz HSL
                  obtain ⟨P, hP⟩ : ∃ P, (l.drop (p + 3)).take n = P := ⟨_, rfl⟩
                  have hPl : P.length = n := by rw [← hP, List.length_take, List.length_drop]; omega
                  have hcutP : (l.take (p + 3 + n)).drop (p + 3) = P := by rw [← hP, List.drop_take]; congr 1; omega
                  have hBP := HA.out.cut (lo := p + 3) (hi := p + 3 + n) (by omega) hfit
                  rw [hcutP] at hBP
                  rw [hP] at HR
                  have hsl2 : ∀ W : World, (Instr.slice 24 (.slice (some ⟨b, off, none⟩) l.length c) (some (.int .i64 ((p : Int) + 3))) (some (.int .i64 ((p : Int) + 3 + (n : Int)))) none).run Tryz.prog W = .ok (.slice (offA (some ⟨b, off, none⟩) c (p + 3)) P.length (c - (p + 3))) W := fun W => by
                   have := slice_lh (some ⟨b, off, none⟩) l.length c (p + 3) (p + 3 + n) (by omega) (by omega) W
                   rw [hPl]
                   rw [Int.natCast_add, Int.natCast_add, Nat.add_sub_cancel_left] at this
                   exact this
                  have e3 : ¬ ((l.length : Int) - ((p : Int) + 3) < (n : Int)) := by omega
                  have HBP := Hi (hBP.grow (YB w (.cells #[] 5)))
                  have HOE := Hi (own_empty (sz := 1) (YD w (.cells #[] 5)) (Nat.le_refl _))
                  have H63 := Hi (show 0 + P.length ≤ maxLen by rw [hPl]; unfold maxLen; omega)
                  have HBY := Hi (show (0 + P.length) * 1 ≤ 140737488355328 by rw [hPl]; omega)
                  have HSZ := Hi (YB w (.cells #[] 5)).size
                  have HCAST := Hi (show ((p + 3 + n : Nat) : Int) = (p : Int) + 3 + (n : Int) by omega)
                  clear hP hPl hcutP hBP
                  go_wp2_with fail
                  refine NM.out.mono ?_
                  rintro e w1 ⟨rfl, rfl⟩
                  go_wp2_with (at_builtin; refine YL _ rfl _ _ 24 rfl w.heap.size 5 i0 _ 1 Tryz.underlying24 hi hz0 hz1 hz2 rfl (by decide) _ 0 [] rfl HOE.out (offA (some ⟨b, off, none⟩) c (p + 3)) P (c - (p + 3)) rfl encB_len HBP.out.sl (one_flatB P) H63.out HBY.out HSZ.out ?_; intro v2 w2 hown2 hg2)
                  rw [Nat.zero_add, List.nil_append] at hown2
                  obtain ⟨A2, c2, rfl⟩ := YV hown2
                  have HO2 := Hi (ByAt.of_own hown2)
                  have HB2 := Hi ((YB w (.cells #[] 5)).grown hg2 HSZ.out (fun kk hkk => (HOE.out.lt kk hkk).1))
                  clear hown2 hg2
                  go_wp2_with fail
                  refine bodyPost_ret (v := .tuple #[.slice A2 P.length c2, .int .i64 ((p : Int) + 3 + (n : Int)), .bool true]) (by simp [results, Tryz.results136, go_sem]) rfl ⟨?_, HB2.out⟩
                  exact Or.inl ⟨P, p + 3 + n, A2, c2, HR.out, by rw [HCAST.out], HO2.out⟩
                · have HR := Hi (HSL.out.trans (if_neg (fun hh => hfit hh.2.2.2)))
                  have e3 : (l.length : Int) - ((p : Int) + 3) < (n : Int) := by omega
                  clear hcy hcz hy hz HSL
                  go_wp2_with fail
                  refine NM.out.mono ?_
                  rintro e w1 ⟨rfl, rfl⟩
                  go_wp2_with fail
                  refine bodyPost_ret (v := .tuple #[.slice none 0 0, .int .i64 0, .bool false]) (by simp [results, Tryz.results136, go_sem]) rfl ⟨?_, Below.refl _ _⟩
                  exact Or.inr ⟨HR.out, rfl⟩
              · have HR := Hi (HSL.out.trans (if_neg (fun hh => h10 (Option.some.inj (hz.symm.trans hh.2.2.1)))))
                obtain ⟨f1, f2⟩ := ne_byte (x := z) 10 h10
                have f3 : ((z.toNat : Int) != 10) = true := f2
                clear hcy hy hz HSL h10 f1 f2
                generalize z.toNat = zn at *
                go_wp2_with fail
                refine NM.out.mono ?_
                rintro e w1 ⟨rfl, rfl⟩
                go_wp2_with fail
                refine bodyPost_ret (v := .tuple #[.slice none 0 0, .int .i64 0, .bool false]) (by simp [results, Tryz.results136, go_sem]) rfl ⟨?_, Below.refl _ _⟩
                exact Or.inr ⟨HR.out, rfl⟩
            · have HR := Hi (HSL.out.trans (if_neg (fun hh => h13 (Option.some.inj (hy.symm.trans hh.2.1)))))
              obtain ⟨f1, f2⟩ := ne_byte (x := y) 13 h13
              have f3 : ((y.toNat : Int) != 13) = true := f2
              clear hcz hy hz HSL h13 f1 f2
              generalize y.toNat = yn at *
              go_wp2_with fail
              refine NM.out.mono ?_
              rintro e w1 ⟨rfl, rfl⟩
              go_wp2_with fail
              refine bodyPost_ret (v := .tuple #[.slice none 0 0, .int .i64 0, .bool false]) (by simp [results, Tryz.results136, go_sem]) rfl ⟨?_, Below.refl _ _⟩
              exact Or.inr ⟨HR.out, rfl⟩
          · have e2 : decide ((l.length : Int) < (p : Int) + 3) = true := by simp; omega
            have HR := Hi (HSL.out.trans (if_neg (fun hh => by have := (List.getElem?_eq_some_iff.1 hh.2.2.1).1; omega)))
            clear HSL
            go_wp2_with fail
            refine NM.out.mono ?_
            rintro e w1 ⟨rfl, rfl⟩
            go_wp2_with fail
            refine bodyPost_ret (v := .tuple #[.slice none 0 0, .int .i64 0, .bool false]) (by simp [results, Tryz.results136, go_sem]) rfl ⟨?_, Below.refl _ _⟩
            exact Or.inr ⟨HR.out, rfl⟩
        · have e1 : decide (65536 < (n : Int)) = true := by simp; omega
          have HR := Hi (HSL.out.trans (if_neg (fun hh => hbig hh.1)))
          clear hbig HSL
          go_wp2_with fail
          refine NM.out.mono ?_
          rintro e w1 ⟨rfl, rfl⟩
          go_wp2_with fail
          refine bodyPost_ret (v := .tuple #[.slice none 0 0, .int .i64 0, .bool false]) (by simp [results, Tryz.results136, go_sem]) rfl ⟨?_, Below.refl _ _⟩
          exact Or.inr ⟨HR.out, rfl⟩
    · have hne : l[p]? ≠ some 125 := by rw [hx]; intro e; exact h125 (Option.some.inj e)
      obtain ⟨f1, f2⟩ := ne_byte (x := x) 125 h125
      have f3 : ((x.toNat : Int) != 125) = true := f2
      by_cases h12 : p ≤ k + 12
      · have HN := Hi (hno.out.next hne)
        have g1 : (p : Int) - (k : Int) ≤ 12 := by omega
        clear hx h125 f1 f2 hne
        generalize x.toNat = xn at *
        go_wp2_with fail
        go_round
        case rel => exact ⟨p + 1, by omega, by omega, by omega, by go_num, HN.out⟩
        case measure => simp [intOf]; omega
      · have g1 : ¬ (p : Int) - (k : Int) ≤ 12 := by omega
        have HR := Hi (show o = none from HO.out.symm.trans (refL_none (ann_none hno.out (Or.inr (by omega)))))
        clear hx h125 f1 f2 hne
        generalize x.toNat = xn at *
        go_wp2_with fail
        refine bodyPost_ret (v := .tuple #[.slice none 0 0, .int .i64 0, .bool false]) (by simp [results, Tryz.results136, go_sem]) rfl ⟨?_, Below.refl _ _⟩
        exact Or.inr ⟨HR.out, rfl⟩
  · obtain rfl : p = l.length := by omega
    have HR := Hi (show o = none from HO.out.symm.trans (refL_none (ann_none hno.out (Or.inl (Nat.le_refl _)))))
    go_wp2_with fail
    refine bodyPost_ret (v := .tuple #[.slice none 0 0, .int .i64 0, .bool false]) (by simp [results, Tryz.results136, go_sem]) rfl ⟨?_, Below.refl _ _⟩
    exact Or.inr ⟨HR.out, rfl⟩
theorem refScanL_no (B c : Nat) (A : Option Addr) (l : List UInt8) (x : Int) (h1 : -9223372036854775808 ≤ x) (h2 : x ≤ 9223372036854775807) (hx : x < 0 ∨ l[x.toNat]? ≠ some 123) (_hl : l.length ≤ 1000000) (w : World) (hA : ByAt B w A c l) :
 Calls Tryz.prog 136 #[.slice A l.length c, .int .i64 x] w fun e w' => e = .returned (.tuple #[.slice none 0 0, .int .i64 0, .bool false]) ∧ w = w' := by
 by_cases h0 : x < 0
 · have d1 : decide (x < 0) = true := by simp; omega
   clear hx hA
   go_enter Tryz.func136, Tryz.ntmps136
   go_wp2_with fail
   exact bodyPost_ret (v := .tuple #[.slice none 0 0, .int .i64 0, .bool false]) (by simp [results, Tryz.results136, go_sem]) rfl ⟨rfl, rfl⟩
 · obtain ⟨k, rfl⟩ : ∃ k : Nat, x = k := ⟨x.toNat, by omega⟩
   have d1 : decide ((k : Int) < 0) = false := by simp
   have hx' : l[k]? ≠ some 123 := by
    rcases hx with h | h
    · omega
    · exact h
   clear hx h0
   by_cases hlt : k < l.length
   · have d2 : decide (l.length ≤ k) = false := by simp; omega
     have hb : l[k]? = some l[k] := List.getElem?_eq_getElem hlt
     generalize l[k] = y at hb
     obtain ⟨b, off, rfl, _, hc⟩ := at_byte hA hb
     obtain ⟨f1, f2⟩ := ne_byte (x := y) 123 (by rintro rfl; exact hx' hb)
     have f3 : ((y.toNat : Int) != 123) = true := f2
     clear hx' hb hA f1 f2
     generalize y.toNat = yn at *
     go_enter Tryz.func136, Tryz.ntmps136
     go_wp2_with fail
     exact bodyPost_ret (v := .tuple #[.slice none 0 0, .int .i64 0, .bool false]) (by simp [results, Tryz.results136, go_sem]) rfl ⟨rfl, rfl⟩
   · have d2 : decide (l.length ≤ k) = true := by simp; omega
     clear hx' hA
     go_enter Tryz.func136, Tryz.ntmps136
     go_wp2_with fail
     exact bodyPost_ret (v := .tuple #[.slice none 0 0, .int .i64 0, .bool false]) (by simp [results, Tryz.results136, go_sem]) rfl ⟨rfl, rfl⟩
theorem refScanLiteral_any (B c : Nat) (A : Option Addr) (l : List UInt8) (x : Int) (h1 : -9223372036854775808 ≤ x) (h2 : x ≤ 9223372036854775807) (hl : l.length ≤ 1000000) (w : World) (hA : ByAt B w A c l) :
 Calls Tryz.prog 136 #[.slice A l.length c, .int .i64 x] w fun e w' => RPost (scanL l x) e w' ∧ Below w.heap.size w w' := by
 by_cases hin : 0 ≤ x ∧ l[x.toNat]? = some 123
 · obtain ⟨k, rfl⟩ : ∃ k : Nat, x = k := ⟨x.toNat, by omega⟩
   exact refScanL_mark B c A l k hin.2 hl w hA
 · have hx : x < 0 ∨ l[x.toNat]? ≠ some 123 := by
    by_cases h : x < 0
    · exact Or.inl h
    · exact Or.inr fun e => hin ⟨by omega, e⟩
   have hn : scanL l x = none := scanL_none (by
    unfold annX
    rcases hx with h | h
    · rw [if_neg (by omega)]
    · by_cases h0 : 0 ≤ x
      · rw [if_pos h0]; exact annO_no h
      · rw [if_neg h0])
   rw [hn]
   refine (refScanL_no B c A l x h1 h2 hx hl w hA).mono ?_
   rintro e w' ⟨he, rfl⟩
   exact ⟨Or.inr ⟨rfl, he⟩, Below.refl _ _⟩
end
end Go.Proofs.YtpgfnlhfciacoaaGreatDoor
