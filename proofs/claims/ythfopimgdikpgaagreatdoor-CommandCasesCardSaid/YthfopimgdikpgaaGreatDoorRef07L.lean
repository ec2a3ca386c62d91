/- The reference of layer 7: list, mode. -/
import Derived.Test.YthfopimgdikpgaaGreatDoorRef07W
namespace Go.Proofs.YthfopimgdikpgaaGreatDoor
open Go.RowKit

theorem lnames_ends (o z : Tok) (m : List Tok) : lnames (o :: (m ++ [z])) = if o.kind = 2 ∧ z.kind = 3 then (if m = [] then some [] else wnames m) else none := by
  simp [lnames]
theorem lsR_mk (items : Bool) (o z : Tok) (m : List Tok) : lsR items (o :: (m ++ [z])) = if o.kind = 2 ∧ z.kind = 3 then (if m = [] then (if items = true then none else some 0) else wsR items m) else none := by
  unfold lsR wsR
  rw [lnames_ends]
  by_cases h : o.kind = 2 ∧ z.kind = 3
  · rw [if_pos h, if_pos h]
    by_cases hm : m = []
    · subst hm
      cases items <;> simp [itemsO, flagsO]
    · rw [if_neg hm, if_neg hm]
      cases hw : wnames m with
      | none => rfl
      | some ns =>
        have hne := wnames_ne hw
        cases items <;> simp [flagsO, hne]
  · rw [if_neg h, if_neg h]; rfl
theorem lsR_short (items : Bool) {ts : List Tok} (h : ts.length < 2) : lsR items ts = none := by
  rcases ts with _ | ⟨t, _ | ⟨s, r⟩⟩
  · rfl
  · rfl
  · simp at h; omega
theorem wrap_sub (n k : Nat) (h : k ≤ n) (hn : n ≤ 1000000000) : IntKind.i64.wrap ((n : Int) - (k : Int)) = ((n - k : Nat) : Int) := by
  simp only [IntKind.wrap, IntKind.bits, IntKind.signed, Bool.true_and, Int.reducePow, Nat.reduceSub, ge_iff_le, decide_eq_true_eq]
  split <;> omega

set_option maxRecDepth 100000 in
set_option maxHeartbeats 2000000 in
theorem rlist_any (items : Bool) (A : Option Addr) (c : Nat) (ts : List Tok) (hl : ts.length ≤ 10000) (hc : ts.length ≤ c) (htx : ∀ t ∈ ts, t.kind ≤ 6 ∧ t.text.length ≤ 1000000) (w : World) (hS : SlAt encT 3 w A ts) :
    Calls Tryz.prog 51 #[.slice A ts.length c, .bool items] w (SumPost (lsR items ts) w) := by
  obtain ⟨O, hO⟩ : ∃ O, lsR items ts = O := ⟨_, rfl⟩
  rw [hO]
  by_cases h2 : ts.length < 2
  · rw [lsR_short items h2] at hO
    have HO := Lib.hid hO
    generalize ts.length = n at *
    have d1 : decide ((n : Int) < 2) = true := by simp; omega
    have d2 : decide (n < 2) = true := by simp; omega
    clear hO hS htx hc h2
    go_enter Tryz.func51, Tryz.ntmps51
    go_wp2_with fail
    refine bodyPost_ret (v := .tuple #[.int .i64 0, .bool false]) (by simp [results, Tryz.results51, go_sem]) rfl ⟨0, false, rfl, by omega, Lib.hid HO.out.symm, Below.refl _ _⟩
  · obtain ⟨o, m, z, rfl⟩ : ∃ o m z, ts = o :: (m ++ [z]) := by
      rcases ts with _ | ⟨o, q⟩
      · simp at h2
      · rcases List.eq_nil_or_concat q with rfl | ⟨m, z, rfl⟩
        · simp at h2
        · exact ⟨o, m, z, by simp⟩
    rw [lsR_mk] at hO
    have HO := Lib.hid hO
    obtain ⟨n, hn⟩ : ∃ n, (o :: (m ++ [z])).length = n := ⟨_, rfl⟩
    have hnm : m.length + 2 = n := by rw [← hn]; simp
    have hd : ((o :: (m ++ [z])).drop 1).take m.length = m := by simp
    have S1 := Lib.hid (slAt_take (hi := m.length) (slAt_drop (c := c) (lo := 1) hS hc (by simp)))
    rw [hd] at S1
    obtain ⟨b, off, rfl, hbw, hc0, _, _⟩ := tk_at hS (j := 0) (by simp)
    obtain ⟨b', off', he, _, hd0, _, _⟩ := tk_at hS (j := m.length + 1) (by simp)
    cases he
    have eo : (o :: (m ++ [z]))[0] = o := rfl
    have ez : (o :: (m ++ [z]))[m.length + 1]'(by simp) = z := by simp
    rw [eo] at hc0
    rw [ez] at hd0
    rw [Nat.zero_mul, Nat.add_zero] at hc0
    obtain ⟨A2, hA2⟩ : ∃ A2, offT (some ⟨b, off, none⟩) c 1 = A2 := ⟨_, rfl⟩
    rw [hA2] at S1
    have HX := Lib.hid (show ∀ t ∈ m, t.kind ≤ 6 ∧ t.text.length ≤ 1000000 from fun t ht => htx t (by simp [ht]))
    have hnz : n - 1 = m.length + 1 := by omega
    have WD := Lib.hid (fun (W : World) (h : SlAt encT 3 W A2 m) => rwords_any items A2 (c - 1) m (by omega) HX.out W h)
    have s0 := fun x lo hi mx W => sliceAtRT x lo hi mx W
    have s1 : ∀ W, (Instr.slice 39 (.slice (some ⟨b, off, none⟩) n c) (some (.int .i64 1)) (some (.int .i64 ((m.length + 1 : Nat) : Int))) none).run Tryz.prog W = .ok (.slice A2 m.length (c - 1)) W := fun W => by
      have h := sliceRT_lh (some ⟨b, off, none⟩) n c 1 (m.length + 1) (by omega) (by omega) W
      rw [hA2] at h
      exact h
    have hw1 : IntKind.i64.wrap ((n : Int) - 1) = ((m.length + 1 : Nat) : Int) := by rw [← hnz]; exact wrap_sub n 1 (by omega) (by omega)
    have d1 : decide ((n : Int) < 2) = false := by simp; omega
    have d2 : decide (n < 2) = false := by simp; omega
    have hm0 : m = [] ↔ n = 2 := by
      rw [← List.length_eq_zero_iff]; omega
    have HM0 := Lib.hid hm0
    have hn0 : 0 < n := by omega
    rw [hn]
    clear hm0 hO hS htx HX hd eo ez h2 hA2
    obtain ⟨n1, hn1⟩ : ∃ n1, m.length + 1 = n1 := ⟨_, rfl⟩
    have hlt1 : n1 < n := by omega
    rw [hn1] at hd0 s1 hw1
    clear hn hl hc hnz
    by_cases hok : o.kind = 2
    · have f1 : ((o.kind : Int) != 2) = false := by rw [hok]; rfl
      by_cases hz3 : z.kind = 3
      · have f2 : ((z.kind : Int) != 3) = false := by rw [hz3]; rfl
        have HO1 : Hid ((if m = [] then (if items = true then none else some 0) else wsR items m) = O) := Lib.hid (by rw [← HO.out]; exact (if_pos ⟨hok, hz3⟩).symm)
        clear HO hok hz3
        generalize o.kind = ko at *
        generalize z.kind = kz at *
        by_cases hn2 : n = 2
        · have g1 : ((n : Int) == 2) = true := by rw [hn2]; rfl
          have HO2 : Hid (O = if items = true then none else some 0) := Lib.hid (by rw [← HO1.out, if_pos (HM0.out.2 hn2)])
          clear hn2 HO1 WD s1 hnm hn1
          go_enter Tryz.func51, Tryz.ntmps51
          go_wp2_with fail
          refine bodyPost_ret (v := .tuple #[.int .i64 0, .bool (!items)]) (by simp [results, Tryz.results51, go_sem]) rfl ⟨0, !items, rfl, by omega, Lib.hid (by rw [HO2.out]; cases items <;> rfl), Below.refl _ _⟩
        · have g1 : ((n : Int) == 2) = false := by simp; omega
          have g2 : ¬ (n : Int) = 2 := by omega
          have HO2 : Hid (wsR items m = O) := Lib.hid (by rw [← HO1.out, if_neg (fun h => hn2 (HM0.out.1 h))])
          have hnn : n = m.length + 2 := hnm.symm
          clear hn2 HO1 hnm hn1 hnn
          go_enter Tryz.func51, Tryz.ntmps51
          go_wp2_with fail
          refine (WD.out _ S1.out).mono ?_
          rintro e w1 ⟨s, q, rfl, hs32, hq, hb1⟩
          rw [HO2.out] at hq
          clear WD HO2 S1
          go_wp2_with fail
          refine bodyPost_ret (v := .tuple #[.int .i64 (s : Int), .bool q]) (by simp [results, Tryz.results51, go_sem]) rfl ⟨s, q, rfl, hs32, hq, hb1⟩
      · have f2 : ((z.kind : Int) != 3) = true := by simp; omega
        have HO1 : Hid (O = none) := Lib.hid (by rw [← HO.out]; exact if_neg (fun h => hz3 h.2))
        clear HO hok hz3 WD s1 hnm hn1
        generalize o.kind = ko at *
        generalize z.kind = kz at *
        go_enter Tryz.func51, Tryz.ntmps51
        go_wp2_with fail
        refine bodyPost_ret (v := .tuple #[.int .i64 0, .bool false]) (by simp [results, Tryz.results51, go_sem]) rfl ⟨0, false, rfl, by omega, Lib.hid HO1.out, Below.refl _ _⟩
    · have f1 : ((o.kind : Int) != 2) = true := by simp; omega
      have HO1 : Hid (O = none) := Lib.hid (by rw [← HO.out]; exact if_neg (fun h => hok h.1))
      clear HO hok WD s1 hnm hn1
      generalize o.kind = ko at *
      generalize z.kind = kz at *
      go_enter Tryz.func51, Tryz.ntmps51
      go_wp2_with fail
      refine bodyPost_ret (v := .tuple #[.int .i64 0, .bool false]) (by simp [results, Tryz.results51, go_sem]) rfl ⟨0, false, rfl, by omega, Lib.hid HO1.out, Below.refl _ _⟩

/-! The mode. -/

theorem isSuffixOf_drop (p l : List UInt8) : p.isSuffixOf l = (decide (p.length ≤ l.length) && l.drop (l.length - p.length) == p) := by
  rw [Bool.eq_iff_iff, List.isSuffixOf_iff_suffix]
  constructor
  · rintro ⟨q, rfl⟩
    simp
  · intro h
    simp only [Bool.and_eq_true, decide_eq_true_eq, beq_iff_eq] at h
    exact ⟨l.take (l.length - p.length), by rw [← h.2, List.length_drop]; rw [show l.length - (l.length - (l.length - p.length)) = l.length - p.length by omega]; exact List.take_append_drop _ _⟩
def silent7 (u : List UInt8) : Bool := decide (7 < u.length) && (u.drop (u.length - 7) == silB)
theorem modeL_is (x : List UInt8) : modeL x = if silent7 (upL x) = true then (modeU ((upL x).take ((upL x).length - 7))).map (·, true) else (modeU (upL x)).map (·, false) := by
  unfold modeL cutS silent7 Lib.trimSuffix Lib.hasSuffix
  rw [isSuffixOf_drop]
  have e7 : silB.length = 7 := rfl
  rw [e7]
  generalize upL x = u
  by_cases h7 : 7 < u.length
  · have h8 : decide (7 ≤ u.length) = true := by simp; omega
    have h9 : decide (7 < u.length) = true := by simpa using h7
    rw [h8, h9]
    cases u.drop (u.length - 7) == silB <;> simp
  · have h9 : decide (7 < u.length) = false := by simpa using h7
    rw [h9]
    by_cases h6 : u.length = 7
    · rw [h6]
      simp only [Nat.le_refl, decide_true, Bool.true_and, Nat.sub_self, List.drop_zero, Bool.false_and, Bool.false_eq_true, if_false]
      by_cases hs : u = silB
      · subst hs; rfl
      · have : (u == silB) = false := by simpa using hs
        rw [this]; simp
    · have h8 : decide (7 ≤ u.length) = false := by simp; omega
      rw [h8]; simp
/-- What mode answers. -/
def modeZ (o : Option (Nat × Bool)) : Value := match o with
  | some p => .tuple #[.int .i64 (p.1 : Int), .bool p.2]
  | none => .tuple #[.int .i64 (-1), .bool false]
theorem barr_beq (l m : List UInt8) : (ByteArray.mk l.toArray == ByteArray.mk m.toArray) = (l == m) := by
  show (l.toArray == m.toArray) = _
  simp
theorem modeU_cases (l : List UInt8) : (l = [70, 76, 65, 71, 83] ∧ modeU l = some 0) ∨ (l = [43, 70, 76, 65, 71, 83] ∧ modeU l = some 1) ∨ (l = [45, 70, 76, 65, 71, 83] ∧ modeU l = some 2) ∨ (modeU l = none ∧ l ≠ [70, 76, 65, 71, 83] ∧ l ≠ [43, 70, 76, 65, 71, 83] ∧ l ≠ [45, 70, 76, 65, 71, 83]) := by
  unfold modeU
  by_cases h1 : l = [70, 76, 65, 71, 83]
  · exact .inl ⟨h1, by rw [if_pos h1]⟩
  · by_cases h2 : l = [43, 70, 76, 65, 71, 83]
    · exact .inr (.inl ⟨h2, by rw [if_neg h1, if_pos h2]⟩)
    · by_cases h3 : l = [45, 70, 76, 65, 71, 83]
      · exact .inr (.inr (.inl ⟨h3, by rw [if_neg h1, if_neg h2, if_pos h3]⟩))
      · exact .inr (.inr (.inr ⟨by rw [if_neg h1, if_neg h2, if_neg h3], h1, h2, h3⟩))
end Go.Proofs.YthfopimgdikpgaaGreatDoor
